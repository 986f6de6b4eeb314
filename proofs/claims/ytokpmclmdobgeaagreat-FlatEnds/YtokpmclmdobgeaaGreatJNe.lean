import Derived.Test.YtokpmclmdobgeaaGreatKZe
import Derived.Test.YtokpmclmdobgeaaGreatJBe
import Derived.Test.YtokpmclmdobgeaaGreatJZe
import Derived.Test.YtokpmclmdobgeaaGreatJEe
set_option linter.unusedSimpArgs false
set_option linter.unusedVariables false
set_option maxRecDepth 8000
set_option maxHeartbeats 8000000
open Go.ChangeShapes Go.WideShapes Go.ChangeAt Go.RowKit Go.Maps
namespace Go.Proofs.YtokpmclmdobgeaaGreat.Fl
section
variable {O:Nat->Nat} {n:Nat} {W:World} {M:Mb} {Q:Ca.Qu} {T:Nat->Qo.Nd} {root:Int} {I:Nat->Sh.Gr} {A:Nat->Option Pr} {B:Nat->Nat->Int}
theorem Mn.lend (h:Mn O n W M Q T root I A B) {s d:Nat} {PS PD:Pr} (hs:s<16) (hS:A s=some PS) (hd:d<16) (hD:A d=some PD) (hne:s≠d) (pg a:Int) (wr gt:Bool) (p0:0<=pg) (p1:pg<34359738368) (E1 EA EM:Int) (L':List Re.Rg) (c:Nat) (hl:lendE PS pg wr=E1) (hE:Re.errA (Re.addN PD.L ⟨a,a+1,wr,true,false,1⟩) (Re.addL PD.L ⟨a,a+1,wr,true,false,1⟩)=EA) (hM:Re.outL (Re.addN PD.L ⟨a,a+1,wr,true,false,1⟩) (Re.addL PD.L ⟨a,a+1,wr,true,false,1⟩)=L') (hmay:Qo.mayN T PD.k (costK 0 (a / 512) (a / 262144) (a / 134217728) PD.G 3)=EM) (hp1:E1=0->0<=a/\a<34359738368) (hp2:E1=0->EA=0->PS.F pg=some c/\n<900000000000) (hp3:E1=0->EA=0->EM=0->L'.length<=100) :
 Calls Tryz.prog 85 #[pp M.mb,.agg (sb1 (s:Nat) pg (d:Nat) wr gt a)] W fun e w'=>Rd (E1=0) (Rd (EA=0) (Rd (EM=0) (e=.returned (.int .i64 0)/\ ∃ p' c',Tx O W (fun O' V=>Mn O' (n+6) V M Q (Qo.chargeT T PD.k (costK 0 (a / 512) (a / 262144) (a / 134217728) PD.G 3)) root I (setA A d (some { { PD with F:=put PD.F a (some c),G:=(bumpN (a / 512) (a / 262144) (a / 134217728) PD.G 3) } with rp:=p',rc:=c',L:=L' })) B) w') (e=.returned (.int .i64 EM)/\Tx O W (fun O' V=>Mn O' (n+6) V M Q T root I A B) w')) (e=.returned (.int .i64 EA)/\bc W w')) (e=.returned (.int .i64 E1)/\bc W w'):=by
 obtain ⟨PO,hPO⟩: ∃ PO:Ending->World->Prop,PO=fun e w'=>Rd (E1=0) (Rd (EA=0) (Rd (EM=0) (e=.returned (.int .i64 0)/\ ∃ p' c',Tx O W (fun O' V=>Mn O' (n+6) V M Q (Qo.chargeT T PD.k (costK 0 (a / 512) (a / 262144) (a / 134217728) PD.G 3)) root I (setA A d (some { { PD with F:=put PD.F a (some c),G:=(bumpN (a / 512) (a / 262144) (a / 134217728) PD.G 3) } with rp:=p',rc:=c',L:=L' })) B) w') (e=.returned (.int .i64 EM)/\Tx O W (fun O' V=>Mn O' (n+6) V M Q T root I A B) w')) (e=.returned (.int .i64 EA)/\bc W w')) (e=.returned (.int .i64 E1)/\bc W w'):=⟨_,rfl⟩
 rw [<- hPO]
 have HPO:Hid (∀ e w',Rd (E1=0) (Rd (EA=0) (Rd (EM=0) (e=.returned (.int .i64 0)/\ ∃ p' c',Tx O W (fun O' V=>Mn O' (n+6) V M Q (Qo.chargeT T PD.k (costK 0 (a / 512) (a / 262144) (a / 134217728) PD.G 3)) root I (setA A d (some { { PD with F:=put PD.F a (some c),G:=(bumpN (a / 512) (a / 262144) (a / 134217728) PD.G 3) } with rp:=p',rc:=c',L:=L' })) B) w') (e=.returned (.int .i64 EM)/\Tx O W (fun O' V=>Mn O' (n+6) V M Q T root I A B) w')) (e=.returned (.int .i64 EA)/\bc W w')) (e=.returned (.int .i64 E1)/\bc W w')->PO e w'):=fun e w' z=>by rw [hPO];exact z
 clear hPO
 have HP1:Hid (E1=0->0<=a/\a<34359738368):=hp1
 have HP2:Hid (E1=0->EA=0->PS.F pg=some c/\n<900000000000):=hp2
 have HP3:Hid (E1=0->EA=0->EM=0->L'.length<=100):=hp3
 have HMY:Hid (Qo.mayN T PD.k (costK 0 (a / 512) (a / 262144) (a / 134217728) PD.G 3)=EM):=hmay
 have HPG:Hid (0<=pg/\pg<34359738368):=⟨p0,p1⟩
 have HM:Hid (Mn O n W M Q T root I A B):=h
 have HI:Hid (s<16/\A s=some PS/\d<16/\A d=some PD/\s≠d):=⟨hs,hS,hd,hD,hne⟩
 have HPS:Hid (IsPr O n s W PS):=h.prs s PS hs hS
 have HPD:Hid (IsPr O n d W PD):=h.prs d PD hd hD
 have LBC:Hid (∀ w,bc W w->Calls Tryz.prog 58 #[pp PS.pb,.int .i64 pg,.bool wr] w (re (.int .i64 E1) w)):=fun w hb=>by
  have q:=lendable_any ((HM.out.below hb).prs s PS hs hS) pg p0 p1 wr
  rw [hl] at q;exact q
 have OB:Hid (∀ b,W.heap.size<=b->O b=0):=fun b hb=>bca fun hh=>by have:=h.lt b hh;omega
 have AC:Hid (∀ w:World,bc W w->Calls Tryz.prog 77 #[.slice PD.rp PD.L.length PD.rc,.agg (s7 a (a+1) wr true false 1)] w fun e w'=> ∃ p' c',e=.returned (.tuple #[.slice p' L'.length c',.int .i64 EA])/\L'.length<=c'/\Re.IsL w' W.heap.size p' L'/\bc w w'):=fun w hb=>(add_new PD.rp PD.rc PD.L HPD.out.few HPD.out.cap ⟨a,a+1,wr,true,false,1⟩ EA L' hE hM w (HPD.out.lis.below hb)).mono fun e w' ⟨p',c',e1,e2,e3,e4⟩=>⟨p',c',e1,e2,e3.weak hb.size,e4⟩
 have G0:Hid (bc W (W.alloc (.cells (sb1 (s:Nat) pg (d:Nat) wr gt a) 55))/\Blk (W.alloc (.cells (sb1 (s:Nat) pg (d:Nat) wr gt a) 55)) W.heap.size (sa1 (s:Nat) pg (d:Nat) wr gt a) 55):=⟨baa,Blk.made _ _ _⟩
 clear h hs hS hd hD hne p0 p1 hl hE hM hmay hp1 hp2 hp3
 go_enter Tryz.func85,Tryz.ntmps85
 go_upto_region 1 with fail
 generalize (W.alloc (.cells (sb1 (s:Nat) pg (d:Nat) wr gt a) 55))=W1 at G0 |-
 obtain ⟨b1,hb1⟩: ∃ b1,b1=W.heap.size:=⟨_,rfl⟩
 have G1:Hid (bc W W1/\Blk W1 b1 (sa1 (s:Nat) pg (d:Nat) wr gt a) 55):=kt1
 have NB:Hid (W.heap.size<=b1):=ks
 have OB1:Hid (O b1=0):=OB.out b1 NB.out
 rw [<- hb1]
 clear hb1 G0
 refine hda (fun cw=>bc W1 cw) (below_drew (Below.refl _ _)) fun hHeld=> ?_
 generalize W1.drew=U at hHeld |-
 refine tma 0 12 rfl ?_
 refine tma 1 13 rfl ?_
 refine tma 2 14 rfl ?_
 refine tla 3 15 ((.map (some M.pm))) rfl ?_ ?_
 . exact kv1
 refine tma 4 16 rfl ?_
 refine tla 5 17 ((.int .i64 (s:Nat))) rfl ?_ ?_
 . intro w hSw;(try dsimp only at hSw);have r:w.cell? ⟨b1,0,none⟩=some (.int .i64 (s:Nat)):=(G1.out.2.below hSw).cell 0;(try go_simp);(try simp [*])
 refine tla 6 18 (pp PS.pb) rfl ?_ ?_
 . intro w hSw;(try dsimp only at hSw);have r:=(HM.out.below (below_then G1.out.1 hSw)).proc HI.out.1 HI.out.2.1;(try go_simp);(try simp [*])
 refine tma 7 19 rfl ?_
 refine tma 8 20 rfl ?_
 refine tma 9 21 rfl ?_
 refine tla 10 22 ((.map (some M.pm))) rfl ?_ ?_
 . exact kv1
 refine tma 11 23 rfl ?_
 refine tla 12 24 ((.int .i64 (d:Nat))) rfl ?_ ?_
 . intro w hSw;(try dsimp only at hSw);have r:w.cell? ⟨b1,2,none⟩=some (.int .i64 (d:Nat)):=(G1.out.2.below hSw).cell 2;(try go_simp);(try simp [*])
 refine tla 13 25 (pp PD.pb) rfl ?_ ?_
 . intro w hSw;(try dsimp only at hSw);have r:=(HM.out.below (below_then G1.out.1 hSw)).proc HI.out.2.2.1 HI.out.2.2.2.1;(try go_simp);(try simp [*])
 refine tma 14 5 rfl ?_
 refine tma 15 6 rfl ?_
 have KE:Hid (bc W1 U):=hHeld
 clear hHeld
 refine wpAnyH_done kc ?_ _
 refine NoPanic.normal ?_
 have G2:Hid (bc W U/\Blk U b1 (sa1 (s:Nat) pg (d:Nat) wr gt a) 55):=⟨below_then G1.out.1 KE.out,G1.out.2.below KE.out⟩
 have x1:U.cell? ⟨b1,1,none⟩=some (.int .i64 pg):=G2.out.2.cell 1
 have x3:U.cell? ⟨b1,3,none⟩=some (.bool wr):=G2.out.2.cell 3
 clear KE G1
 go_wp2_with fail
 refine Calls.mono (LBC.out _ G2.out.1) ?_
 rintro e w3 ⟨rfl,hb3⟩
 have G3:Hid (bc W w3/\Blk w3 b1 (sa1 (s:Nat) pg (d:Nat) wr gt a) 55):=⟨below_then G2.out.1 hb3,G2.out.2.below hb3⟩
 clear hb3 G2 x1 x3 LBC
 by_cases E0:E1=0
 rotate_left
 . skip
   have d1:decide (E1=0)=false:=by simp [E0]
   have d2:(E1==0)=false:=by simp [E0]
   have d3:(E1 != 0)=true:=by simp [E0]
   have NE:Hid (¬ E1=0):=E0
   clear E0
   go_wp2_with fail
   exact HPO.out _ _ (Rd.n NE.out ⟨rfl,G3.out.1⟩)
 subst E0
 have HB:Hid (0<=a/\a<34359738368):=HP1.out (by trivial)
 have SC:Hid (∀ w:World,Calls Tryz.prog 103 #[.int .i64 a] w (re (.agg #[.int .i64 a,.int .i64 (a+1)]) w)):=fun w=>single_any a HB.out.1 HB.out.2 w
 go_upto_region 5 with fail
 go_cut [8] (fun v V=> ∃ q:Nat,v=.pointer (some ⟨q,0,none⟩)/\Hid (Blk V q (sy a (a+1) wr true false 1) 126/\w3.heap.size<=q/\bc w3 V))
 case first =>
  refine hda (fun cw=>bc w3 cw) (below_drew (Below.refl _ _)) fun hHeld=> ?_
  generalize w3.drew=X at hHeld |-
  refine tma 0 35 rfl ?_
  refine tla 1 36 (.int .i64 a) rfl ?_ ?_
  . intro w hSw;(try dsimp only at hSw);have r:w.cell? ⟨b1,5,none⟩=some (.int .i64 a):=(G3.out.2.below hSw).cell 5;(try go_simp);(try simp [*])
  refine tma 3 38 rfl ?_
  refine tla 4 39 (.bool wr) rfl ?_ ?_
  . intro w hSw;(try dsimp only at hSw);have r:w.cell? ⟨b1,3,none⟩=some (.bool wr):=(G3.out.2.below hSw).cell 3;(try go_simp);(try simp [*])
  refine tma 5 40 rfl ?_
  refine wpAnyH_ready (rs:=[2,7]) kc (by simp) ?_
  refine AllReadyH.cons (o:=⟨some 37,_,_,_,_,none⟩) rfl (fun K hK=> ?_) (AllReadyH.cons (o:=⟨some 8,_,_,_,_,none⟩) rfl (fun K hK=> ?_) AllReadyH.nil)
  . go_simp
    go_wp2_with (go_at_call 103;refine Calls.mono (SC.out _) ?_;rintro e x1 ⟨rfl,hb⟩)
    refine hK.out _ _ (below_then hHeld hb) ?_
    clear hK K hHeld
    intro hHeld
    try simp only [Act.put,zaa,zba,zca]
    refine tma 6 41 rfl ?_
    refine rda 7 ⟨some 8,_,_,_,_,none⟩ rfl fun K hK=> ?_
    have Zqb:Hid (Blk (x1.alloc (.cells sn1 126)) x1.heap.size so1 126):=Blk.made _ _ _
    have Nqb:Hid (w3.heap.size<=x1.heap.size):=hHeld.size
    go_simp
    refine hK.out _ _ (below_new hHeld _) (fun hHeld2=> ?_)
    clear hK K hHeld
    generalize x1.alloc (.cells sn1 126)=x2 at hHeld2 Zqb  |-
    generalize x1.heap.size=qb at Nqb Zqb |-
    have hHeld:=hHeld2
    clear hHeld2
    try simp only [Act.put,zaa,zba,zca]
    refine rda 8 ⟨none,_,_,_,_,none⟩ rfl fun K hK=> ?_
    refine wanted_mp2 rfl ?_
    have th:x2.there qb 0 6:=Zqb.out.there
    refine wp_store_mid _ _ _ rfl qb 0 (s7 a (a+1) wr true false 1) rfl rfl th kc kq1 ?_
    (try simp only [List.toList_toArray])
    have Fqb:Hid (Blk (x2.setCells qb 0 (sy a (a+1) wr true false 1)) qb (sy a (a+1) wr true false 1) 126):=Blk.put Zqb.out rfl
    have KS:Hid (bc w3 (x2.setCells qb 0 (sy a (a+1) wr true false 1))):=below_put hHeld Nqb.out _
    generalize x2.setCells qb 0 (sy a (a+1) wr true false 1)=x3 at Fqb KS |-
    clear th
    refine hK.out _ _ KS.out ?_
    clear hK K hHeld
    intro hHeld
    try simp only [Act.put,zaa,zba,zca]
    have KE:Hid (bc w3 x3):=hHeld
    clear hHeld
    refine wpAnyH_done kc ?_ _
    refine NoPanic.normal ?_
    go_wp2_with fail
    go_meet
    exact ⟨qb,rfl,Fqb.out,Nqb.out,KE.out⟩
  . have Zqb:Hid (Blk (X.alloc (.cells sn1 126)) X.heap.size so1 126):=Blk.made _ _ _
    have Nqb:Hid (w3.heap.size<=X.heap.size):=hHeld.size
    go_simp
    refine hK.out _ _ (below_new hHeld _) (fun hHeld2=> ?_)
    clear hK K hHeld
    generalize X.alloc (.cells sn1 126)=x1 at hHeld2 Zqb  |-
    generalize X.heap.size=qb at Nqb Zqb |-
    have hHeld:=hHeld2
    clear hHeld2
    try simp only [Act.put,zaa,zba,zca]
    refine rda 2 ⟨some 37,_,_,_,_,none⟩ rfl fun K hK=> ?_
    go_simp
    go_wp2_with (go_at_call 103;refine Calls.mono (SC.out _) ?_;rintro e x2 ⟨rfl,hb⟩)
    have Zqb:=Zqb.out.below hb
    have Zqb:Hid (Blk x2 qb so1 126):=Zqb
    refine hK.out _ _ (below_then hHeld hb) ?_
    clear hK K hHeld
    intro hHeld
    try simp only [Act.put,zaa,zba,zca]
    refine tma 6 41 rfl ?_
    refine rda 8 ⟨none,_,_,_,_,none⟩ rfl fun K hK=> ?_
    refine wanted_mp2 rfl ?_
    have th:x2.there qb 0 6:=Zqb.out.there
    refine wp_store_mid _ _ _ rfl qb 0 (s7 a (a+1) wr true false 1) rfl rfl th kc kq1 ?_
    (try simp only [List.toList_toArray])
    have Fqb:Hid (Blk (x2.setCells qb 0 (sy a (a+1) wr true false 1)) qb (sy a (a+1) wr true false 1) 126):=Blk.put Zqb.out rfl
    have KS:Hid (bc w3 (x2.setCells qb 0 (sy a (a+1) wr true false 1))):=below_put hHeld Nqb.out _
    generalize x2.setCells qb 0 (sy a (a+1) wr true false 1)=x3 at Fqb KS |-
    clear th
    refine hK.out _ _ KS.out ?_
    clear hK K hHeld
    intro hHeld
    try simp only [Act.put,zaa,zba,zca]
    have KE:Hid (bc w3 x3):=hHeld
    clear hHeld
    refine wpAnyH_done kc ?_ _
    refine NoPanic.normal ?_
    go_wp2_with fail
    go_meet
    exact ⟨qb,rfl,Fqb.out,Nqb.out,KE.out⟩
 case rest =>
 obtain ⟨q,rfl,hq⟩:=hcut
 obtain ⟨w4,hw4⟩: ∃ w4,w4=wc:=⟨_,rfl⟩
 subst hw4
 have G4:Hid (bc W w4/\Blk w4 b1 (sa1 (s:Nat) pg (d:Nat) wr gt a) 55/\Blk w4 q (sy a (a+1) wr true false 1) 126):=⟨below_then G3.out.1 hq.out.2.2,G3.out.2.below hq.out.2.2,hq.out.1⟩
 clear hq G3 SC
 go_upto_region 6 with fail
 refine hda (fun cw=>bc w4 cw) (below_drew (Below.refl _ _)) fun hHeld=> ?_
 generalize w4.drew=Y at hHeld |-
 refine tma 0 43 rfl ?_
 refine tma 1 44 rfl ?_
 refine tma 2 45 rfl ?_
 refine tla 3 46 (.slice PD.rp PD.L.length PD.rc) rfl ?_ ?_
 . intro w hSw;(try dsimp only at hSw);have q:=(HPD.out.pro.below G4.out.1).below hSw;have r:w.cell? ⟨PD.pb,15,none⟩=some (.slice PD.rp PD.L.length PD.rc):=q.cell 15;(try go_simp);(try simp [*])
 refine tla 4 47 ((.agg (s7 a (a+1) wr true false 1))) rfl ?_ ?_
 . intro w hSw;(try dsimp only at hSw);have q:=G4.out.2.2.below hSw;have r0:=q.cell 0;have r1:=q.cell 1;have r2:=q.cell 2;have r3:=q.cell 3;have r4:=q.cell 4;have r5:=q.cell 5;(try go_simp);(try simp [*])
 refine rda 5 ⟨some 48,_,_,_,_,none⟩ rfl fun K hK=> ?_
 go_simp
 go_wp2_with (go_at_call 77;refine Calls.mono (AC.out _ (below_then G4.out.1 hHeld)) ?_;rintro e y1 ⟨p',c',rfl,h6a,h6b,hb⟩)
 have L6:Hid (L'.length<=c'/\Re.IsL y1 W.heap.size p' L'):=⟨h6a,h6b⟩
 clear h6a h6b
 refine hK.out _ _ (below_then hHeld hb) ?_
 clear hK K hHeld
 intro hHeld
 try simp only [Act.put,zaa,zba,zca]
 refine tma 6 42 rfl ?_
 refine tma 7 49 rfl ?_
 refine tma 8 50 rfl ?_
 refine tma 9 9 rfl ?_
 refine tma 10 10 rfl ?_
 have KE:Hid (bc w4 y1):=hHeld
 clear hHeld
 refine wpAnyH_done kc ?_ _
 refine NoPanic.normal ?_
 have G6:Hid (bc W y1/\Blk y1 b1 (sa1 (s:Nat) pg (d:Nat) wr gt a) 55):=⟨below_then G4.out.1 KE.out,G4.out.2.1.below KE.out⟩
 clear KE G4 AC
 by_cases E0:EA=0
 rotate_left
 . skip
   have d1:decide (EA=0)=false:=by simp [E0]
   have d2:(EA==0)=false:=by simp [E0]
   have d3:(EA != 0)=true:=by simp [E0]
   have NE:Hid (¬ EA=0):=E0
   clear E0
   go_wp2_with fail
   exact HPO.out _ _ (Rd.t (Rd.n NE.out ⟨rfl,G6.out.1⟩))
 subst E0
 have HX:Hid (PS.F pg=some c/\(Lit.int .i64 pg).wf=true/\n<900000000000):=⟨(HP2.out (by trivial) (by trivial)).1,wf64 (by have:=HPG.out;omega) (by have:=HPG.out;omega),(HP2.out (by trivial) (by trivial)).2⟩
 by_cases E0:EM=0
 rotate_left
 . skip
   have d1:decide (EM=0)=false:=by simp [E0]
   have d2:(EM==0)=false:=by simp [E0]
   have d3:(EM != 0)=true:=by simp [E0]
   have NE:Hid (¬ EM=0):=E0
   clear E0
   have LC:Hid (∀ w,bc W w->Calls Tryz.prog 56 #[pp M.mb,pp PD.pb,.int .i64 a,.int .i64 1,pp c] w fun e w'=>e=.returned (.int .i64 EM)/\Mn O (n+6) w' M Q T root I A B/\Ko O w w'):=fun w hb=>(HM.out.below hb).lead_no HI.out.2.2.1 HI.out.2.2.2.1 a HB.out.1 HB.out.2 1 0 (Or.inr ⟨rfl,rfl⟩) HX.out.2.2 c EM HMY.out NE.out
   have HSA:Hid (A s=some PS):=HI.out.2.1
   have BS:Hid (Blk y1 b1 (sa1 (s:Nat) pg (d:Nat) wr gt a) 55/\y1.cell? ⟨PS.pb,16,none⟩=some (.map (some PS.lb))/\ ∃ m,MapL y1 PS.lb m PS.F):=⟨G6.out.2,(HPS.out.pro.below G6.out.1).cell 16,n,HPS.out.led.block (G6.out.1.block _ HPS.out.led.lt)⟩
   go_upto_region 9 with fail
   refine hda (fun cw=>Blk cw b1 (sa1 (s:Nat) pg (d:Nat) wr gt a) 55/\cw.cell? ⟨PS.pb,16,none⟩=some (.map (some PS.lb))/\ ∃ m,MapL cw PS.lb m PS.F) BS.out fun hHeld=> ?_
   have KU:Hid (bc W y1.drew):=below_drew G6.out.1
   have L7:Hid (Re.IsL y1.drew W.heap.size p' L'/\L'.length<=c'):=⟨L6.out.2.below (below_drew (Below.refl _ _)),L6.out.1⟩
   change Hid (Re.IsL y1.drew W.heap.size p' L'/\L'.length<=c') at L7
   clear BS G6 L6
   generalize y1.drew=U9 at hHeld KU L7 |-
   refine tma 0 54 rfl ?_
   refine tma 1 55 rfl ?_
   refine tma 2 56 rfl ?_
   refine tla 3 57 (.int .i64 a) rfl ?_ ?_
   . intro w hSw;(try dsimp only at hSw);have r:w.cell? ⟨b1,5,none⟩=some (.int .i64 a):=hSw.1.cell 5;(try go_simp);(try simp [*])
   refine tma 4 58 rfl ?_
   refine tma 5 59 rfl ?_
   refine tma 6 60 rfl ?_
   refine tla 7 61 ((.map (some PS.lb))) rfl ?_ ?_
   . exact ky1
   refine tma 8 62 rfl ?_
   refine tla 9 63 (.int .i64 pg) rfl ?_ ?_
   . intro w hSw;(try dsimp only at hSw);have r:w.cell? ⟨b1,1,none⟩=some (.int .i64 pg):=hSw.1.cell 1;(try go_simp);(try simp [*])
   refine tla 10 64 (pp c) rfl ?_ ?_
   . intro w hSw;(try dsimp only at hSw);(obtain ⟨m,hm⟩:=hSw.2.2);have r:(Instr.lookup 85 (.map (some PS.lb)) (.int .i64 pg) false).run Tryz.prog w=.ok (pp c) w:=(by have q:=hm.look HX.out.2.1;rw [HX.out.1] at q;exact q);(try go_simp);(try simp [*])
   refine rda 11 ⟨some 65,_,_,_,_,none⟩ rfl fun K hK=> ?_
   go_simp
   go_wp2_with (go_at_call 56;refine Calls.mono (LC.out _ KU.out) ?_;rintro e u9 ⟨rfl,hm9,hk9⟩)
   have S2:Hid (Blk u9 b1 (sa1 (s:Nat) pg (d:Nat) wr gt a) 55/\u9.cell? ⟨PS.pb,16,none⟩=some (.map (some PS.lb))/\ ∃ m,MapL u9 PS.lb m PS.F):=by
    have q:=hm9.prs s PS HI.out.1 HSA.out
    exact ⟨hk9.blk hHeld.1 OB1.out,q.pro.cell 16,n+6,q.led⟩
   have M9:Hid (Mn O (n+6) u9 M Q T root I A B):=hm9
   have K9:Hid (Ko O W u9/\W.heap.size<=u9.heap.size):=⟨(Ko.of_below KU.out).trans (hk9.sub fun j hj=>⟨hj.1,nla hj.2 KU.out.size⟩),Nat.le_trans KU.out.size hk9.size⟩
   have LL:Hid (Re.IsL u9 W.heap.size p' L'):=fun j hj=>by
    obtain ⟨g,e,l1,l2,cs⟩:=L7.out.1 j hj
    have hbk:=hk9.block g ⟨OB.out g l1,l2⟩
    exact ⟨g,e,l1,nla l2 hk9.size,fun a' y hy=>(World.cell?_of_block (a:=⟨g,j*6+a',none⟩) hbk).trans (cs a' y hy)⟩
   refine hK.out _ _ S2.out ?_
   clear hK K hHeld hm9 hk9 S2 KU
   intro hHeld
   try simp only [Act.put,zaa,zba,zca]
   refine tma 12 11 rfl ?_
   clear hHeld
   refine wpAnyH_done kc ?_ _
   refine NoPanic.normal ?_
   have HE:Hid (Tx O W (fun O' V=>Mn O' (n+6) V M Q T root I A B) u9):=⟨O,M9.out,fun _ _=>rfl,M9.out.lt,K9.out.1⟩
   go_wp2_with fail
   exact HPO.out _ _ (Rd.t (Rd.t (Rd.n NE.out ⟨rfl,HE.out⟩)))
 subst E0
 have H1:Hid (L'.length<=100):=HP3.out (by trivial) (by trivial) (by trivial)
 have LC:Hid (∀ w,bc W w->Calls Tryz.prog 56 #[pp M.mb,pp PD.pb,.int .i64 a,.int .i64 1,pp c] w fun e w'=>e=.returned (.int .i64 0)/\Mn O (n+6) w' M Q (Qo.chargeT T PD.k (costK 0 (a / 512) (a / 262144) (a / 134217728) PD.G 3)) root I (setA A d (some { PD with F:=put PD.F a (some c),G:=(bumpN (a / 512) (a / 262144) (a / 134217728) PD.G 3) })) B/\Ko O w w'):=fun w hb=>(HM.out.below hb).lead HI.out.2.2.1 HI.out.2.2.2.1 a HB.out.1 HB.out.2 1 0 (Or.inr ⟨rfl,rfl⟩) HX.out.2.2 c (HPS.out.con pg c HX.out.1) HMY.out
 have HSA:Hid (setA A d (some { PD with F:=put PD.F a (some c),G:=(bumpN (a / 512) (a / 262144) (a / 134217728) PD.G 3) }) s=some PS):=(setA_other _ _ _ _ HI.out.2.2.2.2).trans HI.out.2.1
 have BS:Hid (Blk y1 b1 (sa1 (s:Nat) pg (d:Nat) wr gt a) 55/\y1.cell? ⟨PS.pb,16,none⟩=some (.map (some PS.lb))/\ ∃ m,MapL y1 PS.lb m PS.F):=⟨G6.out.2,(HPS.out.pro.below G6.out.1).cell 16,n,HPS.out.led.block (G6.out.1.block _ HPS.out.led.lt)⟩
 go_upto_region 9 with fail
 refine hda (fun cw=>Blk cw b1 (sa1 (s:Nat) pg (d:Nat) wr gt a) 55/\cw.cell? ⟨PS.pb,16,none⟩=some (.map (some PS.lb))/\ ∃ m,MapL cw PS.lb m PS.F) BS.out fun hHeld=> ?_
 have KU:Hid (bc W y1.drew):=below_drew G6.out.1
 have L7:Hid (Re.IsL y1.drew W.heap.size p' L'/\L'.length<=c'):=⟨L6.out.2.below (below_drew (Below.refl _ _)),L6.out.1⟩
 change Hid (Re.IsL y1.drew W.heap.size p' L'/\L'.length<=c') at L7
 clear BS G6 L6
 generalize y1.drew=U9 at hHeld KU L7 |-
 refine tma 0 54 rfl ?_
 refine tma 1 55 rfl ?_
 refine tma 2 56 rfl ?_
 refine tla 3 57 (.int .i64 a) rfl ?_ ?_
 . intro w hSw;(try dsimp only at hSw);have r:w.cell? ⟨b1,5,none⟩=some (.int .i64 a):=hSw.1.cell 5;(try go_simp);(try simp [*])
 refine tma 4 58 rfl ?_
 refine tma 5 59 rfl ?_
 refine tma 6 60 rfl ?_
 refine tla 7 61 ((.map (some PS.lb))) rfl ?_ ?_
 . exact ky1
 refine tma 8 62 rfl ?_
 refine tla 9 63 (.int .i64 pg) rfl ?_ ?_
 . intro w hSw;(try dsimp only at hSw);have r:w.cell? ⟨b1,1,none⟩=some (.int .i64 pg):=hSw.1.cell 1;(try go_simp);(try simp [*])
 refine tla 10 64 (pp c) rfl ?_ ?_
 . intro w hSw;(try dsimp only at hSw);(obtain ⟨m,hm⟩:=hSw.2.2);have r:(Instr.lookup 85 (.map (some PS.lb)) (.int .i64 pg) false).run Tryz.prog w=.ok (pp c) w:=(by have q:=hm.look HX.out.2.1;rw [HX.out.1] at q;exact q);(try go_simp);(try simp [*])
 refine rda 11 ⟨some 65,_,_,_,_,none⟩ rfl fun K hK=> ?_
 go_simp
 go_wp2_with (go_at_call 56;refine Calls.mono (LC.out _ KU.out) ?_;rintro e u9 ⟨rfl,hm9,hk9⟩)
 have S2:Hid (Blk u9 b1 (sa1 (s:Nat) pg (d:Nat) wr gt a) 55/\u9.cell? ⟨PS.pb,16,none⟩=some (.map (some PS.lb))/\ ∃ m,MapL u9 PS.lb m PS.F):=by
  have q:=hm9.prs s PS HI.out.1 HSA.out
  exact ⟨hk9.blk hHeld.1 OB1.out,q.pro.cell 16,n+6,q.led⟩
 have M9:Hid (Mn O (n+6) u9 M Q (Qo.chargeT T PD.k (costK 0 (a / 512) (a / 262144) (a / 134217728) PD.G 3)) root I (setA A d (some { PD with F:=put PD.F a (some c),G:=(bumpN (a / 512) (a / 262144) (a / 134217728) PD.G 3) })) B):=hm9
 have K9:Hid (Ko O W u9/\W.heap.size<=u9.heap.size):=⟨(Ko.of_below KU.out).trans (hk9.sub fun j hj=>⟨hj.1,nla hj.2 KU.out.size⟩),Nat.le_trans KU.out.size hk9.size⟩
 have LL:Hid (Re.IsL u9 W.heap.size p' L'):=fun j hj=>by
  obtain ⟨g,e,l1,l2,cs⟩:=L7.out.1 j hj
  have hbk:=hk9.block g ⟨OB.out g l1,l2⟩
  exact ⟨g,e,l1,nla l2 hk9.size,fun a' y hy=>(World.cell?_of_block (a:=⟨g,j*6+a',none⟩) hbk).trans (cs a' y hy)⟩
 refine hK.out _ _ S2.out ?_
 clear hK K hHeld hm9 hk9 S2 KU
 intro hHeld
 try simp only [Act.put,zaa,zba,zca]
 refine tma 12 11 rfl ?_
 clear hHeld
 refine wpAnyH_done kc ?_ _
 refine NoPanic.normal ?_
 have PR:Hid (IsPr O (n+6) d u9 { PD with F:=put PD.F a (some c),G:=(bumpN (a / 512) (a / 262144) (a / 134217728) PD.G 3) }):=M9.out.prs d _ HI.out.2.2.1 (setA_same _ _ _)
 have c15:u9.cell? ⟨PD.pb,15,none⟩=some (.slice PD.rp PD.L.length PD.rc):=PR.out.pro.cell 15
 have z15:u9.frozen? ⟨PD.pb,15,none⟩=false:=PR.out.pro.free 15
 have HE:=M9.out.relist HI.out.2.2.1 (setA_same _ _ _) W.heap.size (fun b hb _=>OB.out b hb) LL.out L7.out.2 H1.out
 rw [setA_set] at HE
 have HF:Hid _:=HE
 clear HE PR M9 LL L7
 go_wp2_with fail
 obtain ⟨O',m1,m2,m3⟩:=HF.out
 exact HPO.out _ _ (Rd.t (Rd.t (Rd.t ⟨rfl,p',c',O',m1,m2,m1.lt,K9.out.1.trans (m3.sub fun j hj=>⟨hj.1,nla hj.2 K9.out.2⟩)⟩)))
theorem Mn.load_new (h:Mn O n W M Q T root I A B) {i:Nat} {P:Pr} (hi:i<16) (hA:A i=some P) (k1 k2:Int) (k3 k4 k5:Bool) (ad sz x k6 k7 k8 k9:Int) (p:Int) (hp:ad / 4096=p) (a0:0<=ad) (a1:ad<140737488355328) (g1 g2 gk:Int) (gw gu gx:Bool) (hz:Re.findR P.L p=(⟨g1,g2,gw,gu,gx,gk⟩,true)) (hy:mayV gw gu gx false true false=true) (s0:0<=sz) (s8:sz<=8) (am:ad % 4096+sz<=4096) (hF:P.F p=none) (hmay:Qo.mayN T P.k (costK 1 (p / 512) (p / 262144) (p / 134217728) P.G 3)=0) (hn:n<900000000000) :
 Calls Tryz.prog 33 #[pp M.mb,pp P.pb,.agg (sq 4 k1 k2 k3 k4 k5 ad sz x k6 k7 k8 k9)] W fun e w'=> ∃ c,W.heap.size<=c/\e=.returned (.agg (sw 0 (le (fun _=>(0:Int)) (ad % 4096).toNat sz.toNat) 0 0 0 false))/\Tx O W (fun O' V=>Mn O' (n+6) V M Q (Qo.chargeT T P.k (costK 1 (p / 512) (p / 262144) (p / 134217728) P.G 3)) root I (setA A i (some { P with F:=put P.F p (some c),G:=(bumpN (p / 512) (p / 262144) (p / 134217728) P.G 3) })) (updB B c (fun _=>0))) w':=by
 obtain ⟨X,hX⟩: ∃ X:Int,X=le (fun _=>(0:Int)) (ad % 4096).toNat sz.toNat:=⟨_,rfl⟩
 rw [<- hX]
 have HXX:Hid (X=le (fun _=>(0:Int)) (ad % 4096).toNat sz.toNat):=hX
 clear hX
 have HS:Hid (0<=sz/\sz<=8/\ad % 4096+sz<=4096):=⟨s0,s8,am⟩
 clear s0 s8 am
 have HF:Hid (P.F p=none):=hF
 have HMN:Hid (Qo.mayN T P.k (costK 1 (p / 512) (p / 262144) (p / 134217728) P.G 3)=0/\n<900000000000):=⟨hmay,hn⟩
 clear hF hmay hn
 have FC:Hid (∀ w:World,bc W w->Calls Tryz.prog 52 #[.slice P.rp P.L.length P.rc,.int .i64 p] w (re (.tuple #[.agg (s7 g1 g2 gw gu gx gk),.bool true]) w)):=fun w hb=>by
  have q:=Re.find_any 0 P.rp P.rc P.L (h.prs i P hi hA).few p w ((h.prs i P hi hA).lis.below hb)
  rw [hz] at q;exact q
 have YC:Hid (∀ w:World,Calls Tryz.prog 53 #[.agg (s9 gw gu gx),.agg st1] w (re (.bool true) w)):=fun w=>by
  have q:=may_any gw gu gx false true false w
  rw [hy] at q;exact q
 have s1:(W.alloc (.cells (sq 4 k1 k2 k3 k4 k5 ad sz x k6 k7 k8 k9) 70)).heap.size=W.heap.size+1:=World.size_alloc _ _
 have s2:((W.alloc (.cells (sq 4 k1 k2 k3 k4 k5 ad sz x k6 k7 k8 k9) 70)).alloc (.cells sl1 36)).heap.size=W.heap.size+1+1:=ku
 have G0:Hid (bc W (((W.alloc (.cells (sq 4 k1 k2 k3 k4 k5 ad sz x k6 k7 k8 k9) 70)).alloc (.cells sl1 36)).alloc (.cells st1 124))/\Blk (((W.alloc (.cells (sq 4 k1 k2 k3 k4 k5 ad sz x k6 k7 k8 k9) 70)).alloc (.cells sl1 36)).alloc (.cells st1 124)) W.heap.size (su 4 k1 k2 k3 k4 k5 ad sz x k6 k7 k8 k9) 70/\Blk (((W.alloc (.cells (sq 4 k1 k2 k3 k4 k5 ad sz x k6 k7 k8 k9) 70)).alloc (.cells sl1 36)).alloc (.cells st1 124)) (W.heap.size+1) sm1 36/\Blk (((W.alloc (.cells (sq 4 k1 k2 k3 k4 k5 ad sz x k6 k7 k8 k9) 70)).alloc (.cells sl1 36)).alloc (.cells st1 124)) (W.heap.size+1+1) ss1 124):=by
  have b1:bc (W.alloc (.cells (sq 4 k1 k2 k3 k4 k5 ad sz x k6 k7 k8 k9) 70)) ((W.alloc (.cells (sq 4 k1 k2 k3 k4 k5 ad sz x k6 k7 k8 k9) 70)).alloc (.cells sl1 36)):=baa
  have b2:bc ((W.alloc (.cells (sq 4 k1 k2 k3 k4 k5 ad sz x k6 k7 k8 k9) 70)).alloc (.cells sl1 36)) (((W.alloc (.cells (sq 4 k1 k2 k3 k4 k5 ad sz x k6 k7 k8 k9) 70)).alloc (.cells sl1 36)).alloc (.cells st1 124)):=baa
  refine ⟨below_then (below_then baa b1) b2,((Blk.made _ _ _).below b1).below b2,?_,?_⟩
  . exact kw1
  . exact kx1
 have HM:Hid (Mn O n W M Q T root I A B):=h
 have HI:Hid (i<16/\A i=some P):=⟨hi,hA⟩
 have HP:Hid (IsPr O n i W P):=h.prs i P hi hA
 have HA:Hid (ad / 4096=p/\0<=ad/\ad<140737488355328):=⟨hp,a0,a1⟩
 clear h hi hA s1 s2 hz hy
 go_enter Tryz.func33,Tryz.ntmps33
 go_upto_region 3 with fail
 generalize (((W.alloc (.cells (sq 4 k1 k2 k3 k4 k5 ad sz x k6 k7 k8 k9) 70)).alloc (.cells sl1 36)).alloc (.cells st1 124))=V3 at G0 |-
 obtain ⟨b3,hb3⟩: ∃ b3,b3=W.heap.size+1+1:=⟨_,rfl⟩
 obtain ⟨b2,hb2⟩: ∃ b2,b2=W.heap.size+1:=⟨_,rfl⟩
 obtain ⟨b1,hb1⟩: ∃ b1,b1=W.heap.size:=⟨_,rfl⟩
 have G1:Hid (bc W V3/\Blk V3 b1 (su 4 k1 k2 k3 k4 k5 ad sz x k6 k7 k8 k9) 70/\Blk V3 b2 sm1 36/\Blk V3 b3 ss1 124):=by rw [hb3,hb2,hb1];exact G0.out
 have NB:Hid (W.heap.size<=b1/\W.heap.size<=b2/\b1≠b2/\W.heap.size<=b3/\b3≠b2):=⟨by omega,by omega,by omega,by omega,by omega⟩
 rw [<- hb3,<- hb2,<- hb1]
 clear hb1 hb2 hb3 G0
 have OB:Hid (∀ b,W.heap.size<=b->O b=0):=fun b hb=>bca fun hh=>by have:=HM.out.lt b hh;omega
 have c15:V3.cell? ⟨P.pb,15,none⟩=some (.slice P.rp P.L.length P.rc):=(HP.out.pro.below G1.out.1).cell 15
 clear hp a0 a1
 go_wp2_with fail
 refine Calls.mono (FC.out _ G1.out.1) ?_
 rintro e w4 ⟨rfl,hb4⟩
 have G4:Hid (bc W (w4.alloc (.cells (s7 g1 g2 gw gu gx gk) 126))/\Blk (w4.alloc (.cells (s7 g1 g2 gw gu gx gk) 126)) b1 (su 4 k1 k2 k3 k4 k5 ad sz x k6 k7 k8 k9) 70/\Blk (w4.alloc (.cells (s7 g1 g2 gw gu gx gk) 126)) b2 sm1 36/\Blk (w4.alloc (.cells (s7 g1 g2 gw gu gx gk) 126)) b3 ss1 124/\Blk (w4.alloc (.cells (s7 g1 g2 gw gu gx gk) 126)) w4.heap.size (sy g1 g2 gw gu gx gk) 126):=by
  have b5:bc w4 (w4.alloc (.cells (s7 g1 g2 gw gu gx gk) 126)):=baa
  have b6:=below_then hb4 b5
  exact ⟨below_then G1.out.1 b6,G1.out.2.1.below b6,G1.out.2.2.1.below b6,G1.out.2.2.2.below b6,Blk.made _ _ _⟩
 clear hb4 FC c15 G1
 go_upto_region 4 with fail
 generalize (w4.alloc (.cells (s7 g1 g2 gw gu gx gk) 126))=V5 at G4 |-
 obtain ⟨q,hq⟩: ∃ q,q=w4.heap.size:=⟨_,rfl⟩
 have G5:Hid (bc W V5/\Blk V5 b1 (su 4 k1 k2 k3 k4 k5 ad sz x k6 k7 k8 k9) 70/\Blk V5 b2 sm1 36/\Blk V5 b3 ss1 124/\Blk V5 q (sy g1 g2 gw gu gx gk) 126):=by rw [hq];exact G4.out
 rw [<- hq]
 clear hq G4
 have x2:V5.cell? ⟨q,2,none⟩=some (.bool gw):=G5.out.2.2.2.2.cell 2
 have x3:V5.cell? ⟨q,3,none⟩=some (.bool gu):=G5.out.2.2.2.2.cell 3
 have x4:V5.cell? ⟨q,4,none⟩=some (.bool gx):=G5.out.2.2.2.2.cell 4
 have y0:V5.cell? ⟨b3,0,none⟩=some (.bool false):=G5.out.2.2.2.1.cell 0
 have y1:V5.cell? ⟨b3,1,none⟩=some (.bool true):=G5.out.2.2.2.1.cell 1
 have y2:V5.cell? ⟨b3,2,none⟩=some (.bool false):=G5.out.2.2.2.1.cell 2
 go_wp2_with fail
 refine Calls.mono (YC.out _) ?_
 rintro e V ⟨rfl,hb6⟩
 have G6:Hid (bc W V/\Blk V b1 (su 4 k1 k2 k3 k4 k5 ad sz x k6 k7 k8 k9) 70/\Blk V b2 sm1 36/\Blk V b3 ss1 124):=⟨below_then G5.out.1 hb6,G5.out.2.1.below hb6,G5.out.2.2.1.below hb6,G5.out.2.2.2.1.below hb6⟩
 clear hb6 YC x2 x3 x4 y0 y1 y2 G5
 have M6:Hid (Mn O n V M Q T root I A B):=HM.out.below G6.out.1
 have HPW:Hid ((Lit.int .i64 p).wf=true):=wf64 (by have:=HA.out;omega) (by have:=HA.out;omega)
 have c16:V.cell? ⟨P.pb,16,none⟩=some (.map (some P.lb)):=(M6.out.prs i P HI.out.1 HI.out.2).pro.cell 16
 have lk:(Instr.lookup 85 (.map (some P.lb)) (.int .i64 p) false).run Tryz.prog V=.ok (.pointer none) V:=by
  have q:=(M6.out.prs i P HI.out.1 HI.out.2).led.look HPW.out
  rw [HF.out] at q;exact q
 obtain ⟨zs,hbuild,hzs⟩:=zero_page
 obtain ⟨c,hcc⟩: ∃ c,c=V.heap.size:=⟨_,rfl⟩
 have LC:Hid (Calls Tryz.prog 56 #[pp M.mb,pp P.pb,.int .i64 p,.int .i64 0,.pointer (some ⟨V.heap.size,0,none⟩)] (V.alloc (.cells zs 135)) fun e w'=>e=.returned (.int .i64 0)/\Mn (O9 O c) (n+6) w' M Q (Qo.chargeT T P.k (costK 1 (p / 512) (p / 262144) (p / 134217728) P.G 3)) root I (setA A i (some { P with F:=put P.F p (some c),G:=(bumpN (p / 512) (p / 262144) (p / 134217728) P.G 3) })) (updB B c (fun _=>0))/\Ko (O9 O c) (V.alloc (.cells zs 135)) w'):=by
  rw [hcc]
  have ha:=HA.out
  exact (M6.out.page hzs).lead HI.out.1 HI.out.2 p (by omega) (by omega) 0 1 (Or.inl ⟨rfl,rfl⟩) HMN.out.2 V.heap.size (if_pos rfl) HMN.out.1
 have K6:Hid (bc W (V.alloc (.cells zs 135))/\Blk (V.alloc (.cells zs 135)) b1 (su 4 k1 k2 k3 k4 k5 ad sz x k6 k7 k8 k9) 70/\Blk (V.alloc (.cells zs 135)) b2 sm1 36):=⟨below_new G6.out.1 _,G6.out.2.1.below baa,G6.out.2.2.1.below baa⟩
 have NC:Hid (W.heap.size<=c):=by show _<=_;rw [hcc];exact G6.out.1.size
 have CB:Hid (b1<c/\b2<c):=by rw [hcc];exact ⟨G6.out.2.1.lt,G6.out.2.2.1.lt⟩
 clear hzs hcc
 go_wp2_with fail
 refine Calls.mono LC.out ?_
 rintro e V9x ⟨rfl,hm,hk⟩
 have M7:Hid (Mn (O9 O c) (n+6) V9x M Q (Qo.chargeT T P.k (costK 1 (p / 512) (p / 262144) (p / 134217728) P.G 3)) root I (setA A i (some { P with F:=put P.F p (some c),G:=(bumpN (p / 512) (p / 262144) (p / 134217728) P.G 3) })) (updB B c (fun _=>0))):=hm
 have OJ:Hid (∀ j,j<c->O9 O c j=O j):=fun j hj=>if_neg (by omega)
 have OB1:Hid (O9 O c b2=0):=(OJ.out b2 CB.out.2).trans (OB.out b2 NB.out.2.1)
 have G7:Hid (Blk V9x b1 (su 4 k1 k2 k3 k4 k5 ad sz x k6 k7 k8 k9) 70/\Blk V9x b2 sm1 36):=⟨hk.blk K6.out.2.1 ((OJ.out b1 CB.out.1).trans (OB.out b1 NB.out.1)),hk.blk K6.out.2.2 OB1.out⟩
 have K7:Hid (Ko O W V9x/\W.heap.size<=V9x.heap.size/\ ∀ j,j<W.heap.size->O9 O c j=O j):=⟨(Ko.of_below K6.out.1).trans (hk.sub fun j hj=>⟨(OJ.out j (by have:=NC.out;omega)).trans hj.1,nla hj.2 K6.out.1.size⟩),Nat.le_trans K6.out.1.size hk.size,fun j hj=>OJ.out j (by have:=NC.out;omega)⟩
 have O9C:Hid (O9 O c c=9):=if_pos rfl
 clear hm hk LC K6 lk c16 hbuild M6 G6
 have NE:Hid ((b1≠c/\P.pb≠c/\P.lb≠c/\b2≠c)/\b1≠b2/\P.pb≠b2/\P.lb≠b2/\b2≠b1):=by
  have nb:=NB.out
  have l5:=HP.out.pro.lt
  have l7:=HP.out.led.lt
  have o5:=HP.out.o0
  have o7:=HP.out.o1
  have nc:=NC.out
  have c2:=CB.out
  exact ⟨⟨by omega,by omega,by omega,by omega⟩,nb.2.2.1,by omega,by omega,Ne.symm nb.2.2.1⟩
 have MC:Hid (∀ w:World,Page w c (fun _=>0)->c<w.heap.size->Calls Tryz.prog 57 #[pp c,.agg (sq 4 k1 k2 k3 k4 k5 ad sz x k6 k7 k8 k9)] w (re (.agg (sw 0 X 0 0 0 false)) w)):=fun w hw hl=>by
  have q:=move_load c (fun _=>0) k1 k2 k3 k4 k5 ad sz x k6 k7 k8 k9 w hw (fun _=>⟨by omega,by omega⟩) hl HA.out.2.1 HA.out.2.2 HS.out.1 HS.out.2.1 HS.out.2.2
  rw [<- HXX.out] at q;exact q
 have BS:Hid (Blk V9x b1 (su 4 k1 k2 k3 k4 k5 ad sz x k6 k7 k8 k9) 70/\V9x.cell? ⟨P.pb,16,none⟩=some (.map (some P.lb))/\MapL V9x P.lb (n+6) (put P.F p (some c))):=⟨G7.out.1,(M7.out.prs i _ HI.out.1 (setA_same _ _ _)).pro.cell 16,(M7.out.prs i _ HI.out.1 (setA_same _ _ _)).led⟩
 have LKC:Hid (∀ w:World,MapL w P.lb (n+6) (put P.F p (some c))->(Instr.lookup 85 (.map (some P.lb)) (.int .i64 p) false).run Tryz.prog w=.ok (.pointer (some ⟨c,0,none⟩)) w):=fun w hw=>by
  have q:=hw.look HPW.out
  rw [show put P.F p (some c) p=some c from if_pos rfl] at q;exact q
 have PG:Hid (Page V9x c (fun _=>0)/\c<V9x.heap.size):=by
  have q:=(M7.out.pag c O9C.out).1
  rw [updB_same] at q
  exact ⟨q,M7.out.lt c (by rw [O9C.out];omega)⟩
 have B2:Hid (Blk V9x b2 sm1 36):=G7.out.2
 go_upto_region 10 with fail
 refine hda (fun cw=>Blk cw b1 (su 4 k1 k2 k3 k4 k5 ad sz x k6 k7 k8 k9) 70/\cw.cell? ⟨P.pb,16,none⟩=some (.map (some P.lb))/\MapL cw P.lb (n+6) (put P.F p (some c))) BS.out fun hHeld=> ?_
 have KU:Hid (bc V9x V9x.drew):=below_drew (Below.refl _ _)
 change Hid (Page V9x.drew c (fun _=>0)/\c<V9x.drew.heap.size) at PG
 change Hid (Blk V9x.drew b2 sm1 36) at B2
 clear BS
 generalize V9x.drew=U at hHeld KU PG B2 |-
 refine tma 0 69 rfl ?_
 refine tma 1 70 rfl ?_
 refine tma 2 71 rfl ?_
 refine tla 3 72 ((.map (some P.lb))) rfl ?_ ?_
 . exact ky1
 refine tma 4 73 rfl ?_
 refine tla 5 74 ((.pointer (some ⟨c,0,none⟩))) rfl ?_ ?_
 . exact kz1
 refine tla 6 75 (.agg (sq 4 k1 k2 k3 k4 k5 ad sz x k6 k7 k8 k9)) rfl ?_ ?_
 . exact k01
 refine rda 7 ⟨some 76,_,_,_,_,none⟩ rfl fun K hK=> ?_
 go_simp
 go_wp2_with (go_at_call 57;refine Calls.mono (MC.out _ PG.out.1 PG.out.2) ?_;rintro e u8 ⟨rfl,hb8⟩)
 have KU8:Hid (bc V9x u8):=below_then KU.out hb8
 have B28:Hid (Blk u8 b2 sm1 36):=B2.out.below hb8
 refine hK.out _ _ ⟨hHeld.1.below hb8,(hb8.cell (p:=⟨P.pb,16,none⟩) (lt_of_cell hHeld.2.1)).trans hHeld.2.1,hHeld.2.2.block (hb8.block _ hHeld.2.2.lt)⟩ ?_
 clear hK K hHeld hb8 KU
 intro hHeld
 try simp only [Act.put,zaa,zba,zca]
 refine rda 8 ⟨none,.store 36 (.tmp 6) (.tmp 76),_,_,_,none⟩ rfl fun K hK=> ?_
 refine wanted_mp2 rfl ?_
 have th:u8.there b2 0 6:=B28.out.there
 refine wp_store_mid _ _ _ rfl b2 0 (sw 0 X 0 0 0 false) rfl rfl th kc kq1 ?_
 (try simp only [List.toList_toArray])
 have gk:=grown_setCells b2 (sx 0 X 0 0 0 false) 0 u8
 have ne:b1≠b2/\P.pb≠b2/\P.lb≠b2/\b2≠b1:=NE.out.2
 have F9:Hid (Blk (u8.setCells b2 0 (sx 0 X 0 0 0 false)) b2 (sx 0 X 0 0 0 false) 36):=B28.out.put rfl
 have S9:Hid (Blk (u8.setCells b2 0 (sx 0 X 0 0 0 false)) b1 (su 4 k1 k2 k3 k4 k5 ad sz x k6 k7 k8 k9) 70/\(u8.setCells b2 0 (sx 0 X 0 0 0 false)).cell? ⟨P.pb,16,none⟩=some (.map (some P.lb))/\MapL (u8.setCells b2 0 (sx 0 X 0 0 0 false)) P.lb (n+6) (put P.F p (some c))):=⟨(gk.block _ hHeld.1.lt (fun e=>ne.1 (sia e))).trans hHeld.1,(World.cell?_of_block (a:=⟨P.pb,16,none⟩) (gk.block _ (lt_of_cell hHeld.2.1) (fun e=>ne.2.1 (sia e)))).trans hHeld.2.1,hHeld.2.2.block (gk.block _ hHeld.2.2.lt (fun e=>ne.2.2.1 (sia e)))⟩
 have HE:Hid (Tx O W (fun O' V9x=>Mn O' (n+6) V9x M Q (Qo.chargeT T P.k (costK 1 (p / 512) (p / 262144) (p / 134217728) P.G 3)) root I (setA A i (some { P with F:=put P.F p (some c),G:=(bumpN (p / 512) (p / 262144) (p / 134217728) P.G 3) })) (updB B c (fun _=>0))) (u8.setCells b2 0 (sx 0 X 0 0 0 false))):=by
  have k1:=M7.out.below KU8.out
  have k2:Ko (O9 O c) V9x u8:=Ko.of_below KU8.out
  have kv:Ko O W u8:=K7.out.1.trans (k2.sub fun j hj=>⟨(K7.out.2.2 j hj.2).trans hj.1,nla hj.2 K7.out.2.1⟩)
  refine ⟨(O9 O c),k1.keep gk.size (fun j hj=>gk.block j (k1.lt j hj) (fun e=>hj (by rw [sia e];exact OB1.out))),K7.out.2.2,fun j hj=>nla (k1.lt j hj) gk.size,kv.trans ⟨gk.os,gk.tape,gk.output,gk.size,fun j hj=>gk.block j (nla hj.2 kv.size) (fun e=>by have:=sia e;have:=NB.out;omega)⟩⟩
 clear gk ne
 generalize u8.setCells b2 0 (sx 0 X 0 0 0 false)=u9 at *
 refine hK.out _ _ S9.out ?_
 clear hK K hHeld th S9 B28 KU8
 intro hHeld
 try simp only [Act.put,zaa,zba,zca]
 clear hHeld
 refine wpAnyH_done kc ?_ _
 refine NoPanic.normal ?_
 have LV:(loadVar 36 ⟨b2,0,none⟩).run Tryz.prog u9=.ok (.agg (sw 0 X 0 0 0 false)) u9:=run_loadVar_mid (P:=Tryz.prog) _ b2 0 36 (sx 0 X 0 0 0 false) _ F9.out.range Tryz.underlying36 rfl kc
 go_wp2_with fail
 refine bodyPost_ret (v:=.agg (sw 0 X 0 0 0 false)) (results_one Tryz.results33 _ _ _ ⟨b2,0,none⟩ _ rfl LV) rfl ?_
 exact ⟨c,NC.out,rfl,HE.out⟩
theorem Mn.store_new (h:Mn O n W M Q T root I A B) {i:Nat} {P:Pr} (hi:i<16) (hA:A i=some P) (k1 k2:Int) (k3 k4 k5:Bool) (ad sz x k6 k7 k8 k9:Int) (p:Int) (hp:ad / 4096=p) (a0:0<=ad) (a1:ad<140737488355328) (g1 g2 gk:Int) (gw gu gx:Bool) (hz:Re.findR P.L p=(⟨g1,g2,gw,gu,gx,gk⟩,true)) (hy:mayV gw gu gx true true false=true) (s0:0<=sz) (s8:sz<=8) (am:ad % 4096+sz<=4096) (x0:0<=x) (x1:x<18446744073709551616) (hF:P.F p=none) (hmay:Qo.mayN T P.k (costK 1 (p / 512) (p / 262144) (p / 134217728) P.G 3)=0) (hn:n<900000000000) :
 Calls Tryz.prog 33 #[pp M.mb,pp P.pb,.agg (sq 5 k1 k2 k3 k4 k5 ad sz x k6 k7 k8 k9)] W fun e w'=> ∃ c,W.heap.size<=c/\e=.returned (.agg sl1)/\Tx O W (fun O' V=>Mn O' (n+6) V M Q (Qo.chargeT T P.k (costK 1 (p / 512) (p / 262144) (p / 134217728) P.G 3)) root I (setA A i (some { P with F:=put P.F p (some c),G:=(bumpN (p / 512) (p / 262144) (p / 134217728) P.G 3) })) (updB (updB B c (fun _=>0)) c (cset (fun _=>0) (ad % 4096).toNat sz.toNat x))) w':=by
 have HS:Hid (0<=sz/\sz<=8/\ad % 4096+sz<=4096/\0<=x/\x<18446744073709551616):=⟨s0,s8,am,x0,x1⟩
 clear s0 s8 am x0 x1
 have HF:Hid (P.F p=none):=hF
 have HMN:Hid (Qo.mayN T P.k (costK 1 (p / 512) (p / 262144) (p / 134217728) P.G 3)=0/\n<900000000000):=⟨hmay,hn⟩
 clear hF hmay hn
 have FC:Hid (∀ w:World,bc W w->Calls Tryz.prog 52 #[.slice P.rp P.L.length P.rc,.int .i64 p] w (re (.tuple #[.agg (s7 g1 g2 gw gu gx gk),.bool true]) w)):=fun w hb=>by
  have q:=Re.find_any 0 P.rp P.rc P.L (h.prs i P hi hA).few p w ((h.prs i P hi hA).lis.below hb)
  rw [hz] at q;exact q
 have YC:Hid (∀ w:World,Calls Tryz.prog 53 #[.agg (s9 gw gu gx),.agg sv1] w (re (.bool true) w)):=fun w=>by
  have q:=may_any gw gu gx true true false w
  rw [hy] at q;exact q
 have s1:(W.alloc (.cells (sq 5 k1 k2 k3 k4 k5 ad sz x k6 k7 k8 k9) 70)).heap.size=W.heap.size+1:=World.size_alloc _ _
 have s2:((W.alloc (.cells (sq 5 k1 k2 k3 k4 k5 ad sz x k6 k7 k8 k9) 70)).alloc (.cells sl1 36)).heap.size=W.heap.size+1+1:=ku
 have G0:Hid (bc W (((W.alloc (.cells (sq 5 k1 k2 k3 k4 k5 ad sz x k6 k7 k8 k9) 70)).alloc (.cells sl1 36)).alloc (.cells sv1 124))/\Blk (((W.alloc (.cells (sq 5 k1 k2 k3 k4 k5 ad sz x k6 k7 k8 k9) 70)).alloc (.cells sl1 36)).alloc (.cells sv1 124)) W.heap.size (su 5 k1 k2 k3 k4 k5 ad sz x k6 k7 k8 k9) 70/\Blk (((W.alloc (.cells (sq 5 k1 k2 k3 k4 k5 ad sz x k6 k7 k8 k9) 70)).alloc (.cells sl1 36)).alloc (.cells sv1 124)) (W.heap.size+1) sm1 36/\Blk (((W.alloc (.cells (sq 5 k1 k2 k3 k4 k5 ad sz x k6 k7 k8 k9) 70)).alloc (.cells sl1 36)).alloc (.cells sv1 124)) (W.heap.size+1+1) su1 124):=by
  have b1:bc (W.alloc (.cells (sq 5 k1 k2 k3 k4 k5 ad sz x k6 k7 k8 k9) 70)) ((W.alloc (.cells (sq 5 k1 k2 k3 k4 k5 ad sz x k6 k7 k8 k9) 70)).alloc (.cells sl1 36)):=baa
  have b2:bc ((W.alloc (.cells (sq 5 k1 k2 k3 k4 k5 ad sz x k6 k7 k8 k9) 70)).alloc (.cells sl1 36)) (((W.alloc (.cells (sq 5 k1 k2 k3 k4 k5 ad sz x k6 k7 k8 k9) 70)).alloc (.cells sl1 36)).alloc (.cells sv1 124)):=baa
  refine ⟨below_then (below_then baa b1) b2,((Blk.made _ _ _).below b1).below b2,?_,?_⟩
  . exact kw1
  . exact kx1
 have HM:Hid (Mn O n W M Q T root I A B):=h
 have HI:Hid (i<16/\A i=some P):=⟨hi,hA⟩
 have HP:Hid (IsPr O n i W P):=h.prs i P hi hA
 have HA:Hid (ad / 4096=p/\0<=ad/\ad<140737488355328):=⟨hp,a0,a1⟩
 clear h hi hA s1 s2 hz hy
 go_enter Tryz.func33,Tryz.ntmps33
 go_upto_region 3 with fail
 generalize (((W.alloc (.cells (sq 5 k1 k2 k3 k4 k5 ad sz x k6 k7 k8 k9) 70)).alloc (.cells sl1 36)).alloc (.cells sv1 124))=V3 at G0 |-
 obtain ⟨b3,hb3⟩: ∃ b3,b3=W.heap.size+1+1:=⟨_,rfl⟩
 obtain ⟨b2,hb2⟩: ∃ b2,b2=W.heap.size+1:=⟨_,rfl⟩
 obtain ⟨b1,hb1⟩: ∃ b1,b1=W.heap.size:=⟨_,rfl⟩
 have G1:Hid (bc W V3/\Blk V3 b1 (su 5 k1 k2 k3 k4 k5 ad sz x k6 k7 k8 k9) 70/\Blk V3 b2 sm1 36/\Blk V3 b3 su1 124):=by rw [hb3,hb2,hb1];exact G0.out
 have NB:Hid (W.heap.size<=b1/\W.heap.size<=b2/\b1≠b2/\W.heap.size<=b3/\b3≠b2):=⟨by omega,by omega,by omega,by omega,by omega⟩
 rw [<- hb3,<- hb2,<- hb1]
 clear hb1 hb2 hb3 G0
 have OB:Hid (∀ b,W.heap.size<=b->O b=0):=fun b hb=>bca fun hh=>by have:=HM.out.lt b hh;omega
 have c15:V3.cell? ⟨P.pb,15,none⟩=some (.slice P.rp P.L.length P.rc):=(HP.out.pro.below G1.out.1).cell 15
 clear hp a0 a1
 go_wp2_with fail
 refine Calls.mono (FC.out _ G1.out.1) ?_
 rintro e w4 ⟨rfl,hb4⟩
 have G4:Hid (bc W (w4.alloc (.cells (s7 g1 g2 gw gu gx gk) 126))/\Blk (w4.alloc (.cells (s7 g1 g2 gw gu gx gk) 126)) b1 (su 5 k1 k2 k3 k4 k5 ad sz x k6 k7 k8 k9) 70/\Blk (w4.alloc (.cells (s7 g1 g2 gw gu gx gk) 126)) b2 sm1 36/\Blk (w4.alloc (.cells (s7 g1 g2 gw gu gx gk) 126)) b3 su1 124/\Blk (w4.alloc (.cells (s7 g1 g2 gw gu gx gk) 126)) w4.heap.size (sy g1 g2 gw gu gx gk) 126):=by
  have b5:bc w4 (w4.alloc (.cells (s7 g1 g2 gw gu gx gk) 126)):=baa
  have b6:=below_then hb4 b5
  exact ⟨below_then G1.out.1 b6,G1.out.2.1.below b6,G1.out.2.2.1.below b6,G1.out.2.2.2.below b6,Blk.made _ _ _⟩
 clear hb4 FC c15 G1
 go_upto_region 4 with fail
 generalize (w4.alloc (.cells (s7 g1 g2 gw gu gx gk) 126))=V5 at G4 |-
 obtain ⟨q,hq⟩: ∃ q,q=w4.heap.size:=⟨_,rfl⟩
 have G5:Hid (bc W V5/\Blk V5 b1 (su 5 k1 k2 k3 k4 k5 ad sz x k6 k7 k8 k9) 70/\Blk V5 b2 sm1 36/\Blk V5 b3 su1 124/\Blk V5 q (sy g1 g2 gw gu gx gk) 126):=by rw [hq];exact G4.out
 rw [<- hq]
 clear hq G4
 have x2:V5.cell? ⟨q,2,none⟩=some (.bool gw):=G5.out.2.2.2.2.cell 2
 have x3:V5.cell? ⟨q,3,none⟩=some (.bool gu):=G5.out.2.2.2.2.cell 3
 have x4:V5.cell? ⟨q,4,none⟩=some (.bool gx):=G5.out.2.2.2.2.cell 4
 have y0:V5.cell? ⟨b3,0,none⟩=some (.bool true):=G5.out.2.2.2.1.cell 0
 have y1:V5.cell? ⟨b3,1,none⟩=some (.bool true):=G5.out.2.2.2.1.cell 1
 have y2:V5.cell? ⟨b3,2,none⟩=some (.bool false):=G5.out.2.2.2.1.cell 2
 go_wp2_with fail
 refine Calls.mono (YC.out _) ?_
 rintro e V ⟨rfl,hb6⟩
 have G6:Hid (bc W V/\Blk V b1 (su 5 k1 k2 k3 k4 k5 ad sz x k6 k7 k8 k9) 70/\Blk V b2 sm1 36/\Blk V b3 su1 124):=⟨below_then G5.out.1 hb6,G5.out.2.1.below hb6,G5.out.2.2.1.below hb6,G5.out.2.2.2.1.below hb6⟩
 clear hb6 YC x2 x3 x4 y0 y1 y2 G5
 have M6:Hid (Mn O n V M Q T root I A B):=HM.out.below G6.out.1
 have HPW:Hid ((Lit.int .i64 p).wf=true):=wf64 (by have:=HA.out;omega) (by have:=HA.out;omega)
 have c16:V.cell? ⟨P.pb,16,none⟩=some (.map (some P.lb)):=(M6.out.prs i P HI.out.1 HI.out.2).pro.cell 16
 have lk:(Instr.lookup 85 (.map (some P.lb)) (.int .i64 p) false).run Tryz.prog V=.ok (.pointer none) V:=by
  have q:=(M6.out.prs i P HI.out.1 HI.out.2).led.look HPW.out
  rw [HF.out] at q;exact q
 obtain ⟨zs,hbuild,hzs⟩:=zero_page
 obtain ⟨c,hcc⟩: ∃ c,c=V.heap.size:=⟨_,rfl⟩
 have LC:Hid (Calls Tryz.prog 56 #[pp M.mb,pp P.pb,.int .i64 p,.int .i64 0,.pointer (some ⟨V.heap.size,0,none⟩)] (V.alloc (.cells zs 135)) fun e w'=>e=.returned (.int .i64 0)/\Mn (O9 O c) (n+6) w' M Q (Qo.chargeT T P.k (costK 1 (p / 512) (p / 262144) (p / 134217728) P.G 3)) root I (setA A i (some { P with F:=put P.F p (some c),G:=(bumpN (p / 512) (p / 262144) (p / 134217728) P.G 3) })) (updB B c (fun _=>0))/\Ko (O9 O c) (V.alloc (.cells zs 135)) w'):=by
  rw [hcc]
  have ha:=HA.out
  exact (M6.out.page hzs).lead HI.out.1 HI.out.2 p (by omega) (by omega) 0 1 (Or.inl ⟨rfl,rfl⟩) HMN.out.2 V.heap.size (if_pos rfl) HMN.out.1
 have K6:Hid (bc W (V.alloc (.cells zs 135))/\Blk (V.alloc (.cells zs 135)) b1 (su 5 k1 k2 k3 k4 k5 ad sz x k6 k7 k8 k9) 70/\Blk (V.alloc (.cells zs 135)) b2 sm1 36):=⟨below_new G6.out.1 _,G6.out.2.1.below baa,G6.out.2.2.1.below baa⟩
 have NC:Hid (W.heap.size<=c):=by show _<=_;rw [hcc];exact G6.out.1.size
 have CB:Hid (b1<c/\b2<c):=by rw [hcc];exact ⟨G6.out.2.1.lt,G6.out.2.2.1.lt⟩
 clear hzs hcc
 go_wp2_with fail
 refine Calls.mono LC.out ?_
 rintro e V9x ⟨rfl,hm,hk⟩
 have M7:Hid (Mn (O9 O c) (n+6) V9x M Q (Qo.chargeT T P.k (costK 1 (p / 512) (p / 262144) (p / 134217728) P.G 3)) root I (setA A i (some { P with F:=put P.F p (some c),G:=(bumpN (p / 512) (p / 262144) (p / 134217728) P.G 3) })) (updB B c (fun _=>0))):=hm
 have OJ:Hid (∀ j,j<c->O9 O c j=O j):=fun j hj=>if_neg (by omega)
 have OB1:Hid (O9 O c b2=0):=(OJ.out b2 CB.out.2).trans (OB.out b2 NB.out.2.1)
 have G7:Hid (Blk V9x b1 (su 5 k1 k2 k3 k4 k5 ad sz x k6 k7 k8 k9) 70/\Blk V9x b2 sm1 36):=⟨hk.blk K6.out.2.1 ((OJ.out b1 CB.out.1).trans (OB.out b1 NB.out.1)),hk.blk K6.out.2.2 OB1.out⟩
 have K7:Hid (Ko O W V9x/\W.heap.size<=V9x.heap.size/\ ∀ j,j<W.heap.size->O9 O c j=O j):=⟨(Ko.of_below K6.out.1).trans (hk.sub fun j hj=>⟨(OJ.out j (by have:=NC.out;omega)).trans hj.1,nla hj.2 K6.out.1.size⟩),Nat.le_trans K6.out.1.size hk.size,fun j hj=>OJ.out j (by have:=NC.out;omega)⟩
 have O9C:Hid (O9 O c c=9):=if_pos rfl
 clear hm hk LC K6 lk c16 hbuild M6 G6
 have NE:Hid ((b1≠c/\P.pb≠c/\P.lb≠c/\b2≠c)/\b1≠b2/\P.pb≠b2/\P.lb≠b2/\b2≠b1):=by
  have nb:=NB.out
  have l5:=HP.out.pro.lt
  have l7:=HP.out.led.lt
  have o5:=HP.out.o0
  have o7:=HP.out.o1
  have nc:=NC.out
  have c2:=CB.out
  exact ⟨⟨by omega,by omega,by omega,by omega⟩,nb.2.2.1,by omega,by omega,Ne.symm nb.2.2.1⟩
 have MC:Hid (∀ w:World,Page w c (fun _=>0)->c<w.heap.size->_):=fun w hw hl=>move_store c (fun _=>0) k1 k2 k3 k4 k5 ad sz x k6 k7 k8 k9 w hw hl HA.out.2.1 HA.out.2.2 HS.out.1 HS.out.2.1 HS.out.2.2.1 HS.out.2.2.2.1 HS.out.2.2.2.2
 have BS:Hid (Blk V9x b1 (su 5 k1 k2 k3 k4 k5 ad sz x k6 k7 k8 k9) 70/\V9x.cell? ⟨P.pb,16,none⟩=some (.map (some P.lb))/\MapL V9x P.lb (n+6) (put P.F p (some c))):=⟨G7.out.1,(M7.out.prs i _ HI.out.1 (setA_same _ _ _)).pro.cell 16,(M7.out.prs i _ HI.out.1 (setA_same _ _ _)).led⟩
 have LKC:Hid (∀ w:World,MapL w P.lb (n+6) (put P.F p (some c))->(Instr.lookup 85 (.map (some P.lb)) (.int .i64 p) false).run Tryz.prog w=.ok (.pointer (some ⟨c,0,none⟩)) w):=fun w hw=>by
  have q:=hw.look HPW.out
  rw [show put P.F p (some c) p=some c from if_pos rfl] at q;exact q
 have PG:Hid (Page V9x c (fun _=>0)/\c<V9x.heap.size):=by
  have q:=(M7.out.pag c O9C.out).1
  rw [updB_same] at q
  exact ⟨q,M7.out.lt c (by rw [O9C.out];omega)⟩
 have B2:Hid (Blk V9x b2 sm1 36):=G7.out.2
 go_upto_region 10 with fail
 refine hda (fun cw=>Blk cw b1 (su 5 k1 k2 k3 k4 k5 ad sz x k6 k7 k8 k9) 70/\cw.cell? ⟨P.pb,16,none⟩=some (.map (some P.lb))/\MapL cw P.lb (n+6) (put P.F p (some c))) BS.out fun hHeld=> ?_
 have KU:Hid (bc V9x V9x.drew):=below_drew (Below.refl _ _)
 change Hid (Page V9x.drew c (fun _=>0)/\c<V9x.drew.heap.size) at PG
 change Hid (Blk V9x.drew b2 sm1 36) at B2
 clear BS
 generalize V9x.drew=U at hHeld KU PG B2 |-
 refine tma 0 69 rfl ?_
 refine tma 1 70 rfl ?_
 refine tma 2 71 rfl ?_
 refine tla 3 72 ((.map (some P.lb))) rfl ?_ ?_
 . exact ky1
 refine tma 4 73 rfl ?_
 refine tla 5 74 ((.pointer (some ⟨c,0,none⟩))) rfl ?_ ?_
 . exact kz1
 refine tla 6 75 (.agg (sq 5 k1 k2 k3 k4 k5 ad sz x k6 k7 k8 k9)) rfl ?_ ?_
 . exact k01
 refine rda 7 ⟨some 76,_,_,_,_,none⟩ rfl fun K hK=> ?_
 go_simp
 go_wp2_with (go_at_call 57;refine Calls.mono (MC.out _ PG.out.1 PG.out.2) ?_;rintro e u8 ⟨rfl,hp8,hg8⟩)
 have ne:b1≠c/\P.pb≠c/\P.lb≠c/\b2≠c:=NE.out.1
 have KU8:Hid (Page u8 c (cset (fun _=>0) (ad % 4096).toNat sz.toNat x)/\V9x.grownBy u8 (some c)):=⟨hp8,grown_trans (grown_below KU.out _) hg8⟩
 have B28:Hid (Blk u8 b2 sm1 36):=(hg8.block _ B2.out.lt (fun e=>ne.2.2.2 (sia e))).trans B2.out
 have S8:Hid (Blk u8 b1 (su 5 k1 k2 k3 k4 k5 ad sz x k6 k7 k8 k9) 70/\u8.cell? ⟨P.pb,16,none⟩=some (.map (some P.lb))/\MapL u8 P.lb (n+6) (put P.F p (some c))):=⟨(hg8.block _ hHeld.1.lt (fun e=>ne.1 (sia e))).trans hHeld.1,(World.cell?_of_block (a:=⟨P.pb,16,none⟩) (hg8.block _ (lt_of_cell hHeld.2.1) (fun e=>ne.2.1 (sia e)))).trans hHeld.2.1,hHeld.2.2.block (hg8.block _ hHeld.2.2.lt (fun e=>ne.2.2.1 (sia e)))⟩
 refine hK.out _ _ S8.out ?_
 clear hK K hHeld hp8 hg8 ne S8 KU
 intro hHeld
 try simp only [Act.put,zaa,zba,zca]
 refine rda 8 ⟨none,.store 36 (.tmp 6) (.tmp 76),_,_,_,none⟩ rfl fun K hK=> ?_
 refine wanted_mp2 rfl ?_
 have th:u8.there b2 0 6:=B28.out.there
 refine wp_store_mid _ _ _ rfl b2 0 sl1 rfl rfl th kc kq1 ?_
 (try simp only [List.toList_toArray])
 have gk:=grown_setCells b2 sm1 0 u8
 have ne:b1≠b2/\P.pb≠b2/\P.lb≠b2/\b2≠b1:=NE.out.2
 have F9:Hid (Blk (u8.setCells b2 0 sm1) b2 sm1 36):=B28.out.put rfl
 have S9:Hid (Blk (u8.setCells b2 0 sm1) b1 (su 5 k1 k2 k3 k4 k5 ad sz x k6 k7 k8 k9) 70/\(u8.setCells b2 0 sm1).cell? ⟨P.pb,16,none⟩=some (.map (some P.lb))/\MapL (u8.setCells b2 0 sm1) P.lb (n+6) (put P.F p (some c))):=⟨(gk.block _ hHeld.1.lt (fun e=>ne.1 (sia e))).trans hHeld.1,(World.cell?_of_block (a:=⟨P.pb,16,none⟩) (gk.block _ (lt_of_cell hHeld.2.1) (fun e=>ne.2.1 (sia e)))).trans hHeld.2.1,hHeld.2.2.block (gk.block _ hHeld.2.2.lt (fun e=>ne.2.2.1 (sia e)))⟩
 have HE:Hid (Tx O W (fun O' V9x=>Mn O' (n+6) V9x M Q (Qo.chargeT T P.k (costK 1 (p / 512) (p / 262144) (p / 134217728) P.G 3)) root I (setA A i (some { P with F:=put P.F p (some c),G:=(bumpN (p / 512) (p / 262144) (p / 134217728) P.G 3) })) (updB (updB B c (fun _=>0)) c (cset (fun _=>0) (ad % 4096).toNat sz.toNat x))) (u8.setCells b2 0 sm1)):=by
  obtain ⟨k1,k2⟩:=M7.out.poke O9C.out KU8.out.2 KU8.out.1 (cset_bd (fun _=>⟨by omega,by omega⟩) _ _ _)
  have kv:Ko O W u8:=K7.out.1.trans (k2.sub fun j hj=>⟨(K7.out.2.2 j hj.2).trans hj.1,nla hj.2 K7.out.2.1⟩)
  refine ⟨(O9 O c),k1.keep gk.size (fun j hj=>gk.block j (k1.lt j hj) (fun e=>hj (by rw [sia e];exact OB1.out))),K7.out.2.2,fun j hj=>nla (k1.lt j hj) gk.size,kv.trans ⟨gk.os,gk.tape,gk.output,gk.size,fun j hj=>gk.block j (nla hj.2 kv.size) (fun e=>by have:=sia e;have:=NB.out;omega)⟩⟩
 clear gk ne
 generalize u8.setCells b2 0 sm1=u9 at *
 refine hK.out _ _ S9.out ?_
 clear hK K hHeld th S9 B28 KU8
 intro hHeld
 try simp only [Act.put,zaa,zba,zca]
 clear hHeld
 refine wpAnyH_done kc ?_ _
 refine NoPanic.normal ?_
 have LV:(loadVar 36 ⟨b2,0,none⟩).run Tryz.prog u9=.ok (.agg sl1) u9:=run_loadVar_mid (P:=Tryz.prog) _ b2 0 36 sm1 _ F9.out.range Tryz.underlying36 rfl kc
 go_wp2_with fail
 refine bodyPost_ret (v:=.agg sl1) (results_one Tryz.results33 _ _ _ ⟨b2,0,none⟩ _ rfl LV) rfl ?_
 exact ⟨c,NC.out,rfl,HE.out⟩
theorem Mn.acc_full (h:Mn O n W M Q T root I A B) {oq:Int} {wq:Bool} (ho:(oq==5)=wq) {i:Nat} {P:Pr} (hi:i<16) (hA:A i=some P) (k1 k2:Int) (k3 k4 k5:Bool) (ad sz x k6 k7 k8 k9:Int) (p:Int) (hp:ad / 4096=p) (a0:0<=ad) (a1:ad<140737488355328) (g1 g2 gk:Int) (gw gu gx:Bool) (hz:Re.findR P.L p=(⟨g1,g2,gw,gu,gx,gk⟩,true)) (hy:mayV gw gu gx wq true false=true) (hF:P.F p=none) (E:Int) (hmay:Qo.mayN T P.k (costK 1 (p / 512) (p / 262144) (p / 134217728) P.G 3)=E) (hE:E≠0) (hn:n<900000000000) :
 Calls Tryz.prog 33 #[pp M.mb,pp P.pb,.agg (sq oq k1 k2 k3 k4 k5 ad sz x k6 k7 k8 k9)] W fun e w'=>e=.returned (.agg (sw 0 0 E 0 0 false))/\Tx O W (fun O' V=>Mn O' (n+6) V M Q T root I A B) w':=by
 have ho2:decide (oq=5)=wq:=ho
 have HF:Hid (P.F p=none):=hF
 have HMN:Hid (Qo.mayN T P.k (costK 1 (p / 512) (p / 262144) (p / 134217728) P.G 3)=E/\n<900000000000/\E≠0):=⟨hmay,hn,hE⟩
 clear hF hmay hn
 have FC:Hid (∀ w:World,bc W w->Calls Tryz.prog 52 #[.slice P.rp P.L.length P.rc,.int .i64 p] w (re (.tuple #[.agg (s7 g1 g2 gw gu gx gk),.bool true]) w)):=fun w hb=>by
  have q:=Re.find_any 0 P.rp P.rc P.L (h.prs i P hi hA).few p w ((h.prs i P hi hA).lis.below hb)
  rw [hz] at q;exact q
 have YC:Hid (∀ w:World,Calls Tryz.prog 53 #[.agg (s9 gw gu gx),.agg (s9 wq true false)] w (re (.bool true) w)):=fun w=>by
  have q:=may_any gw gu gx wq true false w
  rw [hy] at q;exact q
 have s1:(W.alloc (.cells (sq oq k1 k2 k3 k4 k5 ad sz x k6 k7 k8 k9) 70)).heap.size=W.heap.size+1:=World.size_alloc _ _
 have s2:((W.alloc (.cells (sq oq k1 k2 k3 k4 k5 ad sz x k6 k7 k8 k9) 70)).alloc (.cells sl1 36)).heap.size=W.heap.size+1+1:=ku
 have G0:Hid (bc W (((W.alloc (.cells (sq oq k1 k2 k3 k4 k5 ad sz x k6 k7 k8 k9) 70)).alloc (.cells sl1 36)).alloc (.cells (s9 wq true false) 124))/\Blk (((W.alloc (.cells (sq oq k1 k2 k3 k4 k5 ad sz x k6 k7 k8 k9) 70)).alloc (.cells sl1 36)).alloc (.cells (s9 wq true false) 124)) W.heap.size (su oq k1 k2 k3 k4 k5 ad sz x k6 k7 k8 k9) 70/\Blk (((W.alloc (.cells (sq oq k1 k2 k3 k4 k5 ad sz x k6 k7 k8 k9) 70)).alloc (.cells sl1 36)).alloc (.cells (s9 wq true false) 124)) (W.heap.size+1) sm1 36/\Blk (((W.alloc (.cells (sq oq k1 k2 k3 k4 k5 ad sz x k6 k7 k8 k9) 70)).alloc (.cells sl1 36)).alloc (.cells (s9 wq true false) 124)) (W.heap.size+1+1) (sh1 wq true false) 124):=by
  have b1:bc (W.alloc (.cells (sq oq k1 k2 k3 k4 k5 ad sz x k6 k7 k8 k9) 70)) ((W.alloc (.cells (sq oq k1 k2 k3 k4 k5 ad sz x k6 k7 k8 k9) 70)).alloc (.cells sl1 36)):=baa
  have b2:bc ((W.alloc (.cells (sq oq k1 k2 k3 k4 k5 ad sz x k6 k7 k8 k9) 70)).alloc (.cells sl1 36)) (((W.alloc (.cells (sq oq k1 k2 k3 k4 k5 ad sz x k6 k7 k8 k9) 70)).alloc (.cells sl1 36)).alloc (.cells (s9 wq true false) 124)):=baa
  refine ⟨below_then (below_then baa b1) b2,((Blk.made _ _ _).below b1).below b2,?_,?_⟩
  . exact kw1
  . exact kx1
 have HM:Hid (Mn O n W M Q T root I A B):=h
 have HI:Hid (i<16/\A i=some P):=⟨hi,hA⟩
 have HP:Hid (IsPr O n i W P):=h.prs i P hi hA
 have HA:Hid (ad / 4096=p/\0<=ad/\ad<140737488355328):=⟨hp,a0,a1⟩
 clear h hi hA s1 s2 hz hy
 go_enter Tryz.func33,Tryz.ntmps33
 go_upto_region 3 with fail
 generalize (((W.alloc (.cells (sq oq k1 k2 k3 k4 k5 ad sz x k6 k7 k8 k9) 70)).alloc (.cells sl1 36)).alloc (.cells (s9 wq true false) 124))=V3 at G0 |-
 obtain ⟨b3,hb3⟩: ∃ b3,b3=W.heap.size+1+1:=⟨_,rfl⟩
 obtain ⟨b2,hb2⟩: ∃ b2,b2=W.heap.size+1:=⟨_,rfl⟩
 obtain ⟨b1,hb1⟩: ∃ b1,b1=W.heap.size:=⟨_,rfl⟩
 have G1:Hid (bc W V3/\Blk V3 b1 (su oq k1 k2 k3 k4 k5 ad sz x k6 k7 k8 k9) 70/\Blk V3 b2 sm1 36/\Blk V3 b3 (sh1 wq true false) 124):=by rw [hb3,hb2,hb1];exact G0.out
 have NB:Hid (W.heap.size<=b1/\W.heap.size<=b2/\b1≠b2/\W.heap.size<=b3/\b3≠b2):=⟨by omega,by omega,by omega,by omega,by omega⟩
 rw [<- hb3,<- hb2,<- hb1]
 clear hb1 hb2 hb3 G0
 have OB:Hid (∀ b,W.heap.size<=b->O b=0):=fun b hb=>bca fun hh=>by have:=HM.out.lt b hh;omega
 have c15:V3.cell? ⟨P.pb,15,none⟩=some (.slice P.rp P.L.length P.rc):=(HP.out.pro.below G1.out.1).cell 15
 clear hp a0 a1
 go_wp2_with fail
 refine Calls.mono (FC.out _ G1.out.1) ?_
 rintro e w4 ⟨rfl,hb4⟩
 have G4:Hid (bc W (w4.alloc (.cells (s7 g1 g2 gw gu gx gk) 126))/\Blk (w4.alloc (.cells (s7 g1 g2 gw gu gx gk) 126)) b1 (su oq k1 k2 k3 k4 k5 ad sz x k6 k7 k8 k9) 70/\Blk (w4.alloc (.cells (s7 g1 g2 gw gu gx gk) 126)) b2 sm1 36/\Blk (w4.alloc (.cells (s7 g1 g2 gw gu gx gk) 126)) b3 (sh1 wq true false) 124/\Blk (w4.alloc (.cells (s7 g1 g2 gw gu gx gk) 126)) w4.heap.size (sy g1 g2 gw gu gx gk) 126):=by
  have b5:bc w4 (w4.alloc (.cells (s7 g1 g2 gw gu gx gk) 126)):=baa
  have b6:=below_then hb4 b5
  exact ⟨below_then G1.out.1 b6,G1.out.2.1.below b6,G1.out.2.2.1.below b6,G1.out.2.2.2.below b6,Blk.made _ _ _⟩
 clear hb4 FC c15 G1
 go_upto_region 4 with fail
 generalize (w4.alloc (.cells (s7 g1 g2 gw gu gx gk) 126))=V5 at G4 |-
 obtain ⟨q,hq⟩: ∃ q,q=w4.heap.size:=⟨_,rfl⟩
 have G5:Hid (bc W V5/\Blk V5 b1 (su oq k1 k2 k3 k4 k5 ad sz x k6 k7 k8 k9) 70/\Blk V5 b2 sm1 36/\Blk V5 b3 (sh1 wq true false) 124/\Blk V5 q (sy g1 g2 gw gu gx gk) 126):=by rw [hq];exact G4.out
 rw [<- hq]
 clear hq G4
 have x2:V5.cell? ⟨q,2,none⟩=some (.bool gw):=G5.out.2.2.2.2.cell 2
 have x3:V5.cell? ⟨q,3,none⟩=some (.bool gu):=G5.out.2.2.2.2.cell 3
 have x4:V5.cell? ⟨q,4,none⟩=some (.bool gx):=G5.out.2.2.2.2.cell 4
 have y0:V5.cell? ⟨b3,0,none⟩=some (.bool wq):=G5.out.2.2.2.1.cell 0
 have y1:V5.cell? ⟨b3,1,none⟩=some (.bool true):=G5.out.2.2.2.1.cell 1
 have y2:V5.cell? ⟨b3,2,none⟩=some (.bool false):=G5.out.2.2.2.1.cell 2
 go_wp2_with fail
 refine Calls.mono (YC.out _) ?_
 rintro e V ⟨rfl,hb6⟩
 have G6:Hid (bc W V/\Blk V b1 (su oq k1 k2 k3 k4 k5 ad sz x k6 k7 k8 k9) 70/\Blk V b2 sm1 36/\Blk V b3 (sh1 wq true false) 124):=⟨below_then G5.out.1 hb6,G5.out.2.1.below hb6,G5.out.2.2.1.below hb6,G5.out.2.2.2.1.below hb6⟩
 clear hb6 YC x2 x3 x4 y0 y1 y2 G5
 have M6:Hid (Mn O n V M Q T root I A B):=HM.out.below G6.out.1
 have HPW:Hid ((Lit.int .i64 p).wf=true):=wf64 (by have:=HA.out;omega) (by have:=HA.out;omega)
 have c16:V.cell? ⟨P.pb,16,none⟩=some (.map (some P.lb)):=(M6.out.prs i P HI.out.1 HI.out.2).pro.cell 16
 have lk:(Instr.lookup 85 (.map (some P.lb)) (.int .i64 p) false).run Tryz.prog V=.ok (.pointer none) V:=by
  have q:=(M6.out.prs i P HI.out.1 HI.out.2).led.look HPW.out
  rw [HF.out] at q;exact q
 obtain ⟨zs,hbuild,hzs⟩:=zero_page
 have LC:Hid (Calls Tryz.prog 56 #[pp M.mb,pp P.pb,.int .i64 p,.int .i64 0,.pointer (some ⟨V.heap.size,0,none⟩)] (V.alloc (.cells zs 135)) fun e w'=>e=.returned (.int .i64 E)/\Mn O (n+6) w' M Q T root I A B/\Ko O (V.alloc (.cells zs 135)) w'):=by
  have ha:=HA.out
  exact (M6.out.below baa).lead_no HI.out.1 HI.out.2 p (by omega) (by omega) 0 1 (Or.inl ⟨rfl,rfl⟩) HMN.out.2.1 V.heap.size E HMN.out.1 HMN.out.2.2
 have K6:Hid (bc W (V.alloc (.cells zs 135))/\Blk (V.alloc (.cells zs 135)) b1 (su oq k1 k2 k3 k4 k5 ad sz x k6 k7 k8 k9) 70/\Blk (V.alloc (.cells zs 135)) b2 sm1 36):=⟨below_new G6.out.1 _,G6.out.2.1.below baa,G6.out.2.2.1.below baa⟩
 clear hzs
 go_wp2_with fail
 refine Calls.mono LC.out ?_
 rintro e V7 ⟨rfl,hm,hk⟩
 have M7:Hid (Mn O (n+6) V7 M Q T root I A B):=hm
 have K7:Hid (Ko O W V7):=(Ko.of_below K6.out.1).trans (hk.sub fun j hj=>⟨hj.1,nla hj.2 K6.out.1.size⟩)
 have R2:Hid (Blk V7 b2 sm1 36):=hk.blk K6.out.2.2 (OB.out b2 NB.out.2.1)
 have d1:decide (E=0)=false:=by simp [hE]
 have d2:(E==0)=false:=by simp [hE]
 have d3:(E != 0)=true:=by simp [hE]
 clear hm hk LC K6 lk c16 hbuild M6 G6 hE
 go_upto_region 9 with fail
 refine wp_region_lit ?_
 iterate 6 go_step
 refine Tr.store_pat b2 0 (sw 0 0 E 0 0 false) rfl rfl R2.out.there result_info kq1 ?_
 have R4:Hid (Blk (V7.setCells b2 0 ((sw 0 0 E 0 0 false):Array Value).toList) b2 (sx 0 0 E 0 0 false) 36):=R2.out.put rfl
 have GK:=grown_setCells b2 ((sw 0 0 E 0 0 false):Array Value).toList 0 V7
 generalize V7.setCells b2 0 ((sw 0 0 E 0 0 false):Array Value).toList=V8 at R4 GK |-
 have HE:Hid (Tx O W (fun O' V=>Mn O' (n+6) V M Q T root I A B) V8):=⟨O,M7.out.keep GK.size (fun j hj=>GK.block j (M7.out.lt j hj) (fun e=>hj (by rw [sia e];exact OB.out b2 NB.out.2.1))),fun _ _=>rfl,fun j hj=>nla (M7.out.lt j hj) GK.size,K7.out.trans ⟨GK.os,GK.tape,GK.output,GK.size,fun j hj=>GK.block j (nla hj.2 K7.out.size) (fun e=>by have:=sia e;have:=NB.out;omega)⟩⟩
 clear GK M7 K7
 go_wp2_with fail
 have LV:(loadVar 36 ⟨b2,0,none⟩).run Tryz.prog V8=.ok (.agg (sw 0 0 E 0 0 false)) V8:=run_loadVar_mid (P:=Tryz.prog) _ b2 0 36 (sx 0 0 E 0 0 false) _ R4.out.range Tryz.underlying36 rfl kc
 refine bodyPost_ret (v:=.agg (sw 0 0 E 0 0 false)) (results_one Tryz.results33 _ _ _ ⟨b2,0,none⟩ _ rfl LV) rfl ?_
 exact ⟨rfl,HE.out⟩
end
end Go.Proofs.YtokpmclmdobgeaaGreat.Fl
