import Derived.Test.YtokpmclmdobgeaaGreatKZe
import Derived.Test.YtokpmclmdobgeaaGreatJWe
import Derived.Test.YtokpmclmdobgeaaGreatJBe
set_option linter.unusedSimpArgs false
set_option linter.unusedVariables false
set_option maxRecDepth 8000
set_option maxHeartbeats 4000000
open Go.ChangeShapes Go.WideShapes Go.ChangeAt Go.RowKit Go.Maps
namespace Go.Proofs.YtokpmclmdobgeaaGreat.Fl
def codeU (w b:Bool):Int:=4+(if w then 2 else 0)+(if b then 1 else 0)
theorem codeU_wrap (w b:Bool):IntKind.u64.wrap (codeU w b)=codeU w b:=by cases w <;> cases b <;> decide
theorem code_any (wr b:Bool) (W:World):Calls Tryz.prog 55 #[.agg (s9 wr true false),.bool b] W (re (.int .i64 (codeU wr b)) W):=by
 cases wr <;> cases b
 all_goals
  go_enter Tryz.func55,Tryz.ntmps55
  go_wp2_with fail
  go_returns
  exact ⟨rfl,baa⟩
theorem wanted_mp2 {c:Prop} [Decidable c] {a b:Prop} (h:c) (ha:a):if c then a else b:=by rw [if_pos h];exact ha
section
variable {O:Nat->Nat} {n:Nat} {W:World} {M:Mb} {Q:Ca.Qu} {T:Nat->Qo.Nd} {root:Int} {I:Nat->Sh.Gr} {A:Nat->Option Pr} {B:Nat->Nat->Int}
theorem Mn.acc_out (h:Mn O n W M Q T root I A B) {oq:Int} {wq:Bool} (ho:(oq==5)=wq) {i:Nat} {P:Pr} (hi:i<16) (hA:A i=some P) (k1 k2:Int) (k3 k4 k5:Bool) (ad sz x k6 k7 k8 k9:Int) (p:Int) (hp:ad / 4096=p) (a0:0<=ad) (a1:ad<140737488355328) (g1 g2 gk:Int) (gw gu gx:Bool) (hz:Re.findR P.L p=(⟨g1,g2,gw,gu,gx,gk⟩,false)) :
 Calls Tryz.prog 33 #[pp M.mb,pp P.pb,.agg (sq oq k1 k2 k3 k4 k5 ad sz x k6 k7 k8 k9)] W fun e w'=>e=.returned (.agg (sw 0 0 9 ad (codeU wq (P.F p).isSome) (raiseE P.st==0)))/\Tx O W (fun O' V=>Mn O' n V M Q T root I (setA A i (some { P with st:=raiseS P.st ad (codeU wq (P.F p).isSome) })) B) w':=by
 have ho2:decide (oq=5)=wq:=ho
 obtain ⟨fv,hfv⟩: ∃ fv,pgV (P.F p)=fv:=⟨_,rfl⟩
 obtain ⟨bz,hbz⟩: ∃ bz,(P.F p).isSome=bz:=⟨_,rfl⟩
 obtain ⟨cd,hcd⟩: ∃ cd,codeU wq bz=cd:=⟨_,rfl⟩
 obtain ⟨rb,hrb⟩: ∃ rb,(raiseE P.st==0)=rb:=⟨_,rfl⟩
 have HV:Hid ((fv=.pointer none/\bz=false)\/ ∃ c,fv=pp c/\bz=true):=by
  show _\/_
  rw [<- hfv,<- hbz]
  cases P.F p with
  | none => exact Or.inl ⟨rfl, rfl⟩
  | some c => exact Or.inr ⟨c, rfl, rfl⟩
 have HF:Hid (pgV (P.F p)=fv):=hfv
 have CC:Hid (∀ w:World,Calls Tryz.prog 55 #[.agg (s9 wq true false),.bool bz] w (re (.int .i64 cd) w)):=fun w=>by
  have q:=code_any wq bz w
  rw [hcd] at q;exact q
 have WC:IntKind.u64.wrap cd=cd:=by rw [<- hcd];exact codeU_wrap _ _
 have RF:Hid (∀ (O':Nat->Nat) (w:World),Mn O' n w M Q T root I A B->Calls Tryz.prog 54 #[pp P.pb,.agg #[.int .u64 ad,.int .i64 cd]] w fun e w'=>e=.returned (.agg (sw 0 0 9 ad cd rb))/\Tx O' w (fun O' V=>Mn O' n V M Q T root I (setA A i (some { P with st:=raiseS P.st ad cd })) B) w'):=fun O' w hw=>by
  have q:=hw.fault hi hA ad cd WC
  rw [hrb] at q;exact q
 rw [hbz,hcd,hrb]
 clear hfv hbz hcd hrb WC
 have FC:Hid (∀ w:World,bc W w->Calls Tryz.prog 52 #[.slice P.rp P.L.length P.rc,.int .i64 p] w (re (.tuple #[.agg (s7 g1 g2 gw gu gx gk),.bool false]) w)):=fun w hb=>by
  have q:=Re.find_any 0 P.rp P.rc P.L (h.prs i P hi hA).few p w ((h.prs i P hi hA).lis.below hb)
  rw [hz] at q;exact q
 have s1:(W.alloc (.cells (sq oq k1 k2 k3 k4 k5 ad sz x k6 k7 k8 k9) 70)).heap.size=W.heap.size+1:=World.size_alloc _ _
 have s2:((W.alloc (.cells (sq oq k1 k2 k3 k4 k5 ad sz x k6 k7 k8 k9) 70)).alloc (.cells sl1 36)).heap.size=W.heap.size+1+1:=ku
 have G0:Hid (bc W (((W.alloc (.cells (sq oq k1 k2 k3 k4 k5 ad sz x k6 k7 k8 k9) 70)).alloc (.cells sl1 36)).alloc (.cells (s9 wq true false) 124))/\Blk (((W.alloc (.cells (sq oq k1 k2 k3 k4 k5 ad sz x k6 k7 k8 k9) 70)).alloc (.cells sl1 36)).alloc (.cells (s9 wq true false) 124)) W.heap.size (su oq k1 k2 k3 k4 k5 ad sz x k6 k7 k8 k9) 70/\Blk (((W.alloc (.cells (sq oq k1 k2 k3 k4 k5 ad sz x k6 k7 k8 k9) 70)).alloc (.cells sl1 36)).alloc (.cells (s9 wq true false) 124)) (W.heap.size+1) sm1 36/\Blk (((W.alloc (.cells (sq oq k1 k2 k3 k4 k5 ad sz x k6 k7 k8 k9) 70)).alloc (.cells sl1 36)).alloc (.cells (s9 wq true false) 124)) (W.heap.size+1+1) (sh1 wq true false) 124):=by
  have b1:bc (W.alloc (.cells (sq oq k1 k2 k3 k4 k5 ad sz x k6 k7 k8 k9) 70)) ((W.alloc (.cells (sq oq k1 k2 k3 k4 k5 ad sz x k6 k7 k8 k9) 70)).alloc (.cells sl1 36)):=baa
  have b2:bc ((W.alloc (.cells (sq oq k1 k2 k3 k4 k5 ad sz x k6 k7 k8 k9) 70)).alloc (.cells sl1 36)) (((W.alloc (.cells (sq oq k1 k2 k3 k4 k5 ad sz x k6 k7 k8 k9) 70)).alloc (.cells sl1 36)).alloc (.cells (s9 wq true false) 124)):=baa
  refine ⟨below_then (below_then baa b1) b2,((Blk.made _ _ _).below b1).below b2,?_,?_⟩
  . exact kw1
  . exact kx1
 have HM:Hid (Mn O n W M Q T root I A B):=h
 have HI:Hid (i<16/\A i=some P):=⟨hi,hA⟩
 have HP:Hid (IsPr O n i W P):=h.prs i P hi hA
 have HA:Hid (ad / 4096=p/\0<=ad/\ad<140737488355328):=⟨hp,a0,a1⟩
 clear h hi hA s1 s2 hz
 go_enter Tryz.func33,Tryz.ntmps33
 go_upto_region 3 with fail
 generalize (((W.alloc (.cells (sq oq k1 k2 k3 k4 k5 ad sz x k6 k7 k8 k9) 70)).alloc (.cells sl1 36)).alloc (.cells (s9 wq true false) 124))=V3 at G0 |-
 obtain ⟨b3,hb3⟩: ∃ b3,b3=W.heap.size+1+1:=⟨_,rfl⟩
 obtain ⟨b2,hb2⟩: ∃ b2,b2=W.heap.size+1:=⟨_,rfl⟩
 obtain ⟨b1,hb1⟩: ∃ b1,b1=W.heap.size:=⟨_,rfl⟩
 have G1:Hid (bc W V3/\Blk V3 b1 (su oq k1 k2 k3 k4 k5 ad sz x k6 k7 k8 k9) 70/\Blk V3 b2 sm1 36/\Blk V3 b3 (sh1 wq true false) 124):=by rw [hb3,hb2,hb1];exact G0.out
 have NB:Hid (W.heap.size<=b1/\W.heap.size<=b2/\b1≠b2/\W.heap.size<=b3/\b3≠b2):=⟨by omega,by omega,by omega,by omega,by omega⟩
 rw [<- hb3,<- hb2,<- hb1]
 clear hb1 hb2 hb3 G0
 have OB:Hid (∀ b,W.heap.size<=b->O b=0):=fun b hb=>bca fun hh=>by have:=HM.out.lt b hh;omega
 have c15:V3.cell? ⟨P.pb,15,none⟩=some (.slice P.rp P.L.length P.rc):=(HP.out.pro.below G1.out.1).cell 15
 clear hp a0 a1
 go_wp2_with fail
 refine Calls.mono (FC.out _ G1.out.1) ?_
 rintro e w4 ⟨rfl,hb4⟩
 have G4:Hid (bc W (w4.alloc (.cells (s7 g1 g2 gw gu gx gk) 126))/\Blk (w4.alloc (.cells (s7 g1 g2 gw gu gx gk) 126)) b1 (su oq k1 k2 k3 k4 k5 ad sz x k6 k7 k8 k9) 70/\Blk (w4.alloc (.cells (s7 g1 g2 gw gu gx gk) 126)) b2 sm1 36/\Blk (w4.alloc (.cells (s7 g1 g2 gw gu gx gk) 126)) b3 (sh1 wq true false) 124/\Blk (w4.alloc (.cells (s7 g1 g2 gw gu gx gk) 126)) w4.heap.size (sy g1 g2 gw gu gx gk) 126):=by
  have b5:bc w4 (w4.alloc (.cells (s7 g1 g2 gw gu gx gk) 126)):=baa
  have b6:=below_then hb4 b5
  exact ⟨below_then G1.out.1 b6,G1.out.2.1.below b6,G1.out.2.2.1.below b6,G1.out.2.2.2.below b6,Blk.made _ _ _⟩
 clear hb4 FC c15 G1
 go_upto_region 4 with fail
 generalize (w4.alloc (.cells (s7 g1 g2 gw gu gx gk) 126))=V5 at G4 |-
 obtain ⟨q,hq⟩: ∃ q,q=w4.heap.size:=⟨_,rfl⟩
 have G5:Hid (bc W V5/\Blk V5 b1 (su oq k1 k2 k3 k4 k5 ad sz x k6 k7 k8 k9) 70/\Blk V5 b2 sm1 36/\Blk V5 b3 (sh1 wq true false) 124/\Blk V5 q (sy g1 g2 gw gu gx gk) 126):=by rw [hq];exact G4.out
 rw [<- hq]
 clear hq G4
 have G6:Hid (bc W V5/\Blk V5 b1 (su oq k1 k2 k3 k4 k5 ad sz x k6 k7 k8 k9) 70/\Blk V5 b2 sm1 36/\Blk V5 b3 (sh1 wq true false) 124):=⟨G5.out.1,G5.out.2.1,G5.out.2.2.1,G5.out.2.2.2.1⟩
 clear G5
 have M6:Hid (Mn O n V5 M Q T root I A B):=HM.out.below G6.out.1
 have HPW:Hid ((Lit.int .i64 p).wf=true):=wf64 (by have:=HA.out;omega) (by have:=HA.out;omega)
 have BS:Hid (Blk V5 b1 (su oq k1 k2 k3 k4 k5 ad sz x k6 k7 k8 k9) 70/\Blk V5 b3 (sh1 wq true false) 124/\V5.cell? ⟨P.pb,16,none⟩=some (.map (some P.lb))/\MapL V5 P.lb n P.F):=⟨G6.out.2.1,G6.out.2.2.2,(M6.out.prs i P HI.out.1 HI.out.2).pro.cell 16,(M6.out.prs i P HI.out.1 HI.out.2).led⟩
 go_upto_region 5 with fail
 refine hda (fun cw=>Blk cw b1 (su oq k1 k2 k3 k4 k5 ad sz x k6 k7 k8 k9) 70/\Blk cw b3 (sh1 wq true false) 124/\cw.cell? ⟨P.pb,16,none⟩=some (.map (some P.lb))/\MapL cw P.lb n P.F) BS.out fun hHeld=> ?_
 have KU:Hid (bc W V5.drew):=below_drew G6.out.1
 have G6':Hid (Blk V5.drew b2 sm1 36):=G6.out.2.2.1
 clear BS M6 G6
 have G6:=G6'
 clear G6'
 generalize V5.drew=U at hHeld KU G6 |-
 refine tma 0 38 rfl ?_
 refine tma 1 39 rfl ?_
 refine tla 2 40 (.int .u64 ad) rfl ?_ ?_
 . intro w hSw;(try dsimp only at hSw);have r:=hSw.1.cell 6;(try go_simp);(try simp [*])
 refine tla 3 41 (.agg (s9 wq true false)) rfl ?_ ?_
 . intro w hSw;(try dsimp only at hSw);have r0:=hSw.2.1.cell 0;have r1:=hSw.2.1.cell 1;have r2:=hSw.2.1.cell 2;(try go_simp);(try simp [*])
 refine tma 4 42 rfl ?_
 refine tma 5 43 rfl ?_
 refine tma 6 44 rfl ?_
 refine tla 7 45 ((.map (some P.lb))) rfl ?_ ?_
 . intro w hSw;(try dsimp only at hSw);have r:=hSw.2.2.1;(try go_simp);(try simp [*])
 refine tma 8 46 rfl ?_
 refine tla 9 47 fv rfl ?_ ?_
 . intro w hSw;(try dsimp only at hSw);have r:(Instr.lookup 85 (.map (some P.lb)) (.int .i64 p) false).run Tryz.prog w=.ok fv w:=(by rw [<- HF.out];exact hSw.2.2.2.look HPW.out);(try go_simp);(try simp [*])
 refine tla 10 48 (.bool bz) rfl ?_ ?_
 . intro w hSw;(try dsimp only at hSw);(rcases HV.out with ⟨e1,e2⟩ | ⟨cq,e1,e2⟩ <;> rw [e1,e2] <;> go_simp);(try go_simp);(try simp [*])
 refine rda 11 ⟨some 49,_,_,_,_,none⟩ rfl fun K hK=> ?_
 go_simp
 go_wp2_with (go_at_call 55;refine Calls.mono (CC.out _) ?_;rintro e u1 ⟨rfl,hb1⟩)
 have K1:Hid (bc W u1):=below_then KU.out hb1
 have Z1:Hid (Blk u1 b2 sm1 36):=G6.out.below hb1
 refine hK.out _ _ ⟨hHeld.1.below hb1,hHeld.2.1.below hb1,(hb1.cell (p:=⟨P.pb,16,none⟩) (lt_of_cell hHeld.2.2.1)).trans hHeld.2.2.1,hHeld.2.2.2.block (hb1.block _ hHeld.2.2.2.lt)⟩ ?_
 clear hK K hHeld hb1 KU G6
 intro hHeld
 try simp only [Act.put,zaa,zba,zca]
 refine tma 12 50 rfl ?_
 refine rda 13 ⟨some 51,_,_,_,_,none⟩ rfl fun K hK=> ?_
 go_simp
 go_wp2_with (go_at_call 54;refine Calls.mono (RF.out O _ (HM.out.below K1.out)) ?_;rintro e u2 ⟨rfl,htx⟩)
 have TX:Hid (Tx O u1 (fun O' V=>Mn O' n V M Q T root I (setA A i (some { P with st:=raiseS P.st ad cd })) B) u2):=htx
 have S2:Hid (Blk u2 b1 (su oq k1 k2 k3 k4 k5 ad sz x k6 k7 k8 k9) 70/\Blk u2 b3 (sh1 wq true false) 124/\u2.cell? ⟨P.pb,16,none⟩=some (.map (some P.lb))/\MapL u2 P.lb n P.F):=by
  obtain ⟨O',m,e1,e2,k⟩:=htx
  have q:=m.prs i _ HI.out.1 (setA_same _ _ _)
  exact ⟨k.blk hHeld.1 (OB.out _ NB.out.1),k.blk hHeld.2.1 (OB.out _ NB.out.2.2.2.1),q.pro.cell 16,q.led⟩
 have Z2:Hid (Blk u2 b2 sm1 36):=htx.choose_spec.2.2.2.blk Z1.out (OB.out _ NB.out.2.1)
 have L2:b2<u1.heap.size:=Z1.out.lt
 refine hK.out _ _ S2.out ?_
 clear hK K hHeld htx S2 Z1
 intro hHeld
 try simp only [Act.put,zaa,zba,zca]
 refine rda 14 ⟨none,.store 36 (.tmp 6) (.tmp 51),_,_,_,none⟩ rfl fun K hK=> ?_
 refine wanted_mp2 rfl ?_
 have th:u2.there b2 0 6:=Z2.out.there
 refine wp_store_mid _ _ _ rfl b2 0 (sw 0 0 9 ad cd rb) rfl rfl th kc kq1 ?_
 (try simp only [List.toList_toArray])
 have gk:=grown_setCells b2 (sx 0 0 9 ad cd rb) 0 u2
 have F9:Hid (Blk (u2.setCells b2 0 (sx 0 0 9 ad cd rb)) b2 (sx 0 0 9 ad cd rb) 36):=Z2.out.put rfl
 have HE:Hid (Tx O W (fun O' V=>Mn O' n V M Q T root I (setA A i (some { P with st:=raiseS P.st ad cd })) B) (u2.setCells b2 0 (sx 0 0 9 ad cd rb))):=Tx.to (fun O V V' m hs hk=>m.keep hs hk) K1.out TX.out NB.out.2.1 L2 (OB.out _ NB.out.2.1) gk
 have S9:Hid (Blk (u2.setCells b2 0 (sx 0 0 9 ad cd rb)) b1 (su oq k1 k2 k3 k4 k5 ad sz x k6 k7 k8 k9) 70/\Blk (u2.setCells b2 0 (sx 0 0 9 ad cd rb)) b3 (sh1 wq true false) 124/\(u2.setCells b2 0 (sx 0 0 9 ad cd rb)).cell? ⟨P.pb,16,none⟩=some (.map (some P.lb))/\MapL (u2.setCells b2 0 (sx 0 0 9 ad cd rb)) P.lb n P.F):=by
  have nb:=NB.out
  have lp:=HP.out.pro.lt
  have lq:=HP.out.led.lt
  exact ⟨(gk.block _ hHeld.1.lt (fun e=>nb.2.2.1 (sia e))).trans hHeld.1,(gk.block _ hHeld.2.1.lt (fun e=>nb.2.2.2.2 (sia e))).trans hHeld.2.1,(World.cell?_of_block (a:=⟨P.pb,16,none⟩) (gk.block _ (lt_of_cell hHeld.2.2.1) (fun e=>by have:=sia e;have e2:P.pb=b2:=this;omega))).trans hHeld.2.2.1,hHeld.2.2.2.block (gk.block _ hHeld.2.2.2.lt (fun e=>by have:=sia e;omega))⟩
 clear gk TX L2 K1
 generalize u2.setCells b2 0 (sx 0 0 9 ad cd rb)=u3 at *
 refine hK.out _ _ S9.out ?_
 clear hK K hHeld th S9 Z2
 intro hHeld
 try simp only [Act.put,zaa,zba,zca]
 clear hHeld
 refine wpAnyH_done kc ?_ _
 refine NoPanic.normal ?_
 have LV:(loadVar 36 ⟨b2,0,none⟩).run Tryz.prog u3=.ok (.agg (sw 0 0 9 ad cd rb)) u3:=run_loadVar_mid (P:=Tryz.prog) _ b2 0 36 (sx 0 0 9 ad cd rb) _ F9.out.range Tryz.underlying36 rfl kc
 go_wp2_with fail
 refine bodyPost_ret (v:=.agg (sw 0 0 9 ad cd rb)) (results_one Tryz.results33 _ _ _ ⟨b2,0,none⟩ _ rfl LV) rfl ?_
 exact ⟨rfl,HE.out⟩
theorem Mn.acc_may (h:Mn O n W M Q T root I A B) {oq:Int} {wq:Bool} (ho:(oq==5)=wq) {i:Nat} {P:Pr} (hi:i<16) (hA:A i=some P) (k1 k2:Int) (k3 k4 k5:Bool) (ad sz x k6 k7 k8 k9:Int) (p:Int) (hp:ad / 4096=p) (a0:0<=ad) (a1:ad<140737488355328) (g1 g2 gk:Int) (gw gu gx:Bool) (hz:Re.findR P.L p=(⟨g1,g2,gw,gu,gx,gk⟩,true)) (hy:mayV gw gu gx wq true false=false) :
 Calls Tryz.prog 33 #[pp M.mb,pp P.pb,.agg (sq oq k1 k2 k3 k4 k5 ad sz x k6 k7 k8 k9)] W fun e w'=>e=.returned (.agg (sw 0 0 9 ad (codeU wq (P.F p).isSome) (raiseE P.st==0)))/\Tx O W (fun O' V=>Mn O' n V M Q T root I (setA A i (some { P with st:=raiseS P.st ad (codeU wq (P.F p).isSome) })) B) w':=by
 have ho2:decide (oq=5)=wq:=ho
 obtain ⟨fv,hfv⟩: ∃ fv,pgV (P.F p)=fv:=⟨_,rfl⟩
 obtain ⟨bz,hbz⟩: ∃ bz,(P.F p).isSome=bz:=⟨_,rfl⟩
 obtain ⟨cd,hcd⟩: ∃ cd,codeU wq bz=cd:=⟨_,rfl⟩
 obtain ⟨rb,hrb⟩: ∃ rb,(raiseE P.st==0)=rb:=⟨_,rfl⟩
 have HV:Hid ((fv=.pointer none/\bz=false)\/ ∃ c,fv=pp c/\bz=true):=by
  show _\/_
  rw [<- hfv,<- hbz]
  cases P.F p with
  | none => exact Or.inl ⟨rfl, rfl⟩
  | some c => exact Or.inr ⟨c, rfl, rfl⟩
 have HF:Hid (pgV (P.F p)=fv):=hfv
 have CC:Hid (∀ w:World,Calls Tryz.prog 55 #[.agg (s9 wq true false),.bool bz] w (re (.int .i64 cd) w)):=fun w=>by
  have q:=code_any wq bz w
  rw [hcd] at q;exact q
 have WC:IntKind.u64.wrap cd=cd:=by rw [<- hcd];exact codeU_wrap _ _
 have RF:Hid (∀ (O':Nat->Nat) (w:World),Mn O' n w M Q T root I A B->Calls Tryz.prog 54 #[pp P.pb,.agg #[.int .u64 ad,.int .i64 cd]] w fun e w'=>e=.returned (.agg (sw 0 0 9 ad cd rb))/\Tx O' w (fun O' V=>Mn O' n V M Q T root I (setA A i (some { P with st:=raiseS P.st ad cd })) B) w'):=fun O' w hw=>by
  have q:=hw.fault hi hA ad cd WC
  rw [hrb] at q;exact q
 rw [hbz,hcd,hrb]
 clear hfv hbz hcd hrb WC
 have FC:Hid (∀ w:World,bc W w->Calls Tryz.prog 52 #[.slice P.rp P.L.length P.rc,.int .i64 p] w (re (.tuple #[.agg (s7 g1 g2 gw gu gx gk),.bool true]) w)):=fun w hb=>by
  have q:=Re.find_any 0 P.rp P.rc P.L (h.prs i P hi hA).few p w ((h.prs i P hi hA).lis.below hb)
  rw [hz] at q;exact q
 have YC:Hid (∀ w:World,Calls Tryz.prog 53 #[.agg (s9 gw gu gx),.agg (s9 wq true false)] w (re (.bool false) w)):=fun w=>by
  have q:=may_any gw gu gx wq true false w
  rw [hy] at q;exact q
 have s1:(W.alloc (.cells (sq oq k1 k2 k3 k4 k5 ad sz x k6 k7 k8 k9) 70)).heap.size=W.heap.size+1:=World.size_alloc _ _
 have s2:((W.alloc (.cells (sq oq k1 k2 k3 k4 k5 ad sz x k6 k7 k8 k9) 70)).alloc (.cells sl1 36)).heap.size=W.heap.size+1+1:=ku
 have G0:Hid (bc W (((W.alloc (.cells (sq oq k1 k2 k3 k4 k5 ad sz x k6 k7 k8 k9) 70)).alloc (.cells sl1 36)).alloc (.cells (s9 wq true false) 124))/\Blk (((W.alloc (.cells (sq oq k1 k2 k3 k4 k5 ad sz x k6 k7 k8 k9) 70)).alloc (.cells sl1 36)).alloc (.cells (s9 wq true false) 124)) W.heap.size (su oq k1 k2 k3 k4 k5 ad sz x k6 k7 k8 k9) 70/\Blk (((W.alloc (.cells (sq oq k1 k2 k3 k4 k5 ad sz x k6 k7 k8 k9) 70)).alloc (.cells sl1 36)).alloc (.cells (s9 wq true false) 124)) (W.heap.size+1) sm1 36/\Blk (((W.alloc (.cells (sq oq k1 k2 k3 k4 k5 ad sz x k6 k7 k8 k9) 70)).alloc (.cells sl1 36)).alloc (.cells (s9 wq true false) 124)) (W.heap.size+1+1) (sh1 wq true false) 124):=by
  have b1:bc (W.alloc (.cells (sq oq k1 k2 k3 k4 k5 ad sz x k6 k7 k8 k9) 70)) ((W.alloc (.cells (sq oq k1 k2 k3 k4 k5 ad sz x k6 k7 k8 k9) 70)).alloc (.cells sl1 36)):=baa
  have b2:bc ((W.alloc (.cells (sq oq k1 k2 k3 k4 k5 ad sz x k6 k7 k8 k9) 70)).alloc (.cells sl1 36)) (((W.alloc (.cells (sq oq k1 k2 k3 k4 k5 ad sz x k6 k7 k8 k9) 70)).alloc (.cells sl1 36)).alloc (.cells (s9 wq true false) 124)):=baa
  refine ⟨below_then (below_then baa b1) b2,((Blk.made _ _ _).below b1).below b2,?_,?_⟩
  . exact kw1
  . exact kx1
 have HM:Hid (Mn O n W M Q T root I A B):=h
 have HI:Hid (i<16/\A i=some P):=⟨hi,hA⟩
 have HP:Hid (IsPr O n i W P):=h.prs i P hi hA
 have HA:Hid (ad / 4096=p/\0<=ad/\ad<140737488355328):=⟨hp,a0,a1⟩
 clear h hi hA s1 s2 hz hy
 go_enter Tryz.func33,Tryz.ntmps33
 go_upto_region 3 with fail
 generalize (((W.alloc (.cells (sq oq k1 k2 k3 k4 k5 ad sz x k6 k7 k8 k9) 70)).alloc (.cells sl1 36)).alloc (.cells (s9 wq true false) 124))=V3 at G0 |-
 obtain ⟨b3,hb3⟩: ∃ b3,b3=W.heap.size+1+1:=⟨_,rfl⟩
 obtain ⟨b2,hb2⟩: ∃ b2,b2=W.heap.size+1:=⟨_,rfl⟩
 obtain ⟨b1,hb1⟩: ∃ b1,b1=W.heap.size:=⟨_,rfl⟩
 have G1:Hid (bc W V3/\Blk V3 b1 (su oq k1 k2 k3 k4 k5 ad sz x k6 k7 k8 k9) 70/\Blk V3 b2 sm1 36/\Blk V3 b3 (sh1 wq true false) 124):=by rw [hb3,hb2,hb1];exact G0.out
 have NB:Hid (W.heap.size<=b1/\W.heap.size<=b2/\b1≠b2/\W.heap.size<=b3/\b3≠b2):=⟨by omega,by omega,by omega,by omega,by omega⟩
 rw [<- hb3,<- hb2,<- hb1]
 clear hb1 hb2 hb3 G0
 have OB:Hid (∀ b,W.heap.size<=b->O b=0):=fun b hb=>bca fun hh=>by have:=HM.out.lt b hh;omega
 have c15:V3.cell? ⟨P.pb,15,none⟩=some (.slice P.rp P.L.length P.rc):=(HP.out.pro.below G1.out.1).cell 15
 clear hp a0 a1
 go_wp2_with fail
 refine Calls.mono (FC.out _ G1.out.1) ?_
 rintro e w4 ⟨rfl,hb4⟩
 have G4:Hid (bc W (w4.alloc (.cells (s7 g1 g2 gw gu gx gk) 126))/\Blk (w4.alloc (.cells (s7 g1 g2 gw gu gx gk) 126)) b1 (su oq k1 k2 k3 k4 k5 ad sz x k6 k7 k8 k9) 70/\Blk (w4.alloc (.cells (s7 g1 g2 gw gu gx gk) 126)) b2 sm1 36/\Blk (w4.alloc (.cells (s7 g1 g2 gw gu gx gk) 126)) b3 (sh1 wq true false) 124/\Blk (w4.alloc (.cells (s7 g1 g2 gw gu gx gk) 126)) w4.heap.size (sy g1 g2 gw gu gx gk) 126):=by
  have b5:bc w4 (w4.alloc (.cells (s7 g1 g2 gw gu gx gk) 126)):=baa
  have b6:=below_then hb4 b5
  exact ⟨below_then G1.out.1 b6,G1.out.2.1.below b6,G1.out.2.2.1.below b6,G1.out.2.2.2.below b6,Blk.made _ _ _⟩
 clear hb4 FC c15 G1
 go_upto_region 4 with fail
 generalize (w4.alloc (.cells (s7 g1 g2 gw gu gx gk) 126))=V5 at G4 |-
 obtain ⟨q,hq⟩: ∃ q,q=w4.heap.size:=⟨_,rfl⟩
 have G5:Hid (bc W V5/\Blk V5 b1 (su oq k1 k2 k3 k4 k5 ad sz x k6 k7 k8 k9) 70/\Blk V5 b2 sm1 36/\Blk V5 b3 (sh1 wq true false) 124/\Blk V5 q (sy g1 g2 gw gu gx gk) 126):=by rw [hq];exact G4.out
 rw [<- hq]
 clear hq G4
 have x2:V5.cell? ⟨q,2,none⟩=some (.bool gw):=G5.out.2.2.2.2.cell 2
 have x3:V5.cell? ⟨q,3,none⟩=some (.bool gu):=G5.out.2.2.2.2.cell 3
 have x4:V5.cell? ⟨q,4,none⟩=some (.bool gx):=G5.out.2.2.2.2.cell 4
 have y0:V5.cell? ⟨b3,0,none⟩=some (.bool wq):=G5.out.2.2.2.1.cell 0
 have y1:V5.cell? ⟨b3,1,none⟩=some (.bool true):=G5.out.2.2.2.1.cell 1
 have y2:V5.cell? ⟨b3,2,none⟩=some (.bool false):=G5.out.2.2.2.1.cell 2
 go_wp2_with fail
 refine Calls.mono (YC.out _) ?_
 rintro e V ⟨rfl,hb6⟩
 have G6:Hid (bc W V/\Blk V b1 (su oq k1 k2 k3 k4 k5 ad sz x k6 k7 k8 k9) 70/\Blk V b2 sm1 36/\Blk V b3 (sh1 wq true false) 124):=⟨below_then G5.out.1 hb6,G5.out.2.1.below hb6,G5.out.2.2.1.below hb6,G5.out.2.2.2.1.below hb6⟩
 clear hb6 YC x2 x3 x4 y0 y1 y2 G5
 have M6:Hid (Mn O n V M Q T root I A B):=HM.out.below G6.out.1
 have HPW:Hid ((Lit.int .i64 p).wf=true):=wf64 (by have:=HA.out;omega) (by have:=HA.out;omega)
 have BS:Hid (Blk V b1 (su oq k1 k2 k3 k4 k5 ad sz x k6 k7 k8 k9) 70/\Blk V b3 (sh1 wq true false) 124/\V.cell? ⟨P.pb,16,none⟩=some (.map (some P.lb))/\MapL V P.lb n P.F):=⟨G6.out.2.1,G6.out.2.2.2,(M6.out.prs i P HI.out.1 HI.out.2).pro.cell 16,(M6.out.prs i P HI.out.1 HI.out.2).led⟩
 go_upto_region 5 with fail
 refine hda (fun cw=>Blk cw b1 (su oq k1 k2 k3 k4 k5 ad sz x k6 k7 k8 k9) 70/\Blk cw b3 (sh1 wq true false) 124/\cw.cell? ⟨P.pb,16,none⟩=some (.map (some P.lb))/\MapL cw P.lb n P.F) BS.out fun hHeld=> ?_
 have KU:Hid (bc W V.drew):=below_drew G6.out.1
 have G6':Hid (Blk V.drew b2 sm1 36):=G6.out.2.2.1
 clear BS M6 G6
 have G6:=G6'
 clear G6'
 generalize V.drew=U at hHeld KU G6 |-
 refine tma 0 38 rfl ?_
 refine tma 1 39 rfl ?_
 refine tla 2 40 (.int .u64 ad) rfl ?_ ?_
 . intro w hSw;(try dsimp only at hSw);have r:=hSw.1.cell 6;(try go_simp);(try simp [*])
 refine tla 3 41 (.agg (s9 wq true false)) rfl ?_ ?_
 . intro w hSw;(try dsimp only at hSw);have r0:=hSw.2.1.cell 0;have r1:=hSw.2.1.cell 1;have r2:=hSw.2.1.cell 2;(try go_simp);(try simp [*])
 refine tma 4 42 rfl ?_
 refine tma 5 43 rfl ?_
 refine tma 6 44 rfl ?_
 refine tla 7 45 ((.map (some P.lb))) rfl ?_ ?_
 . intro w hSw;(try dsimp only at hSw);have r:=hSw.2.2.1;(try go_simp);(try simp [*])
 refine tma 8 46 rfl ?_
 refine tla 9 47 fv rfl ?_ ?_
 . intro w hSw;(try dsimp only at hSw);have r:(Instr.lookup 85 (.map (some P.lb)) (.int .i64 p) false).run Tryz.prog w=.ok fv w:=(by rw [<- HF.out];exact hSw.2.2.2.look HPW.out);(try go_simp);(try simp [*])
 refine tla 10 48 (.bool bz) rfl ?_ ?_
 . intro w hSw;(try dsimp only at hSw);(rcases HV.out with ⟨e1,e2⟩ | ⟨cq,e1,e2⟩ <;> rw [e1,e2] <;> go_simp);(try go_simp);(try simp [*])
 refine rda 11 ⟨some 49,_,_,_,_,none⟩ rfl fun K hK=> ?_
 go_simp
 go_wp2_with (go_at_call 55;refine Calls.mono (CC.out _) ?_;rintro e u1 ⟨rfl,hb1⟩)
 have K1:Hid (bc W u1):=below_then KU.out hb1
 have Z1:Hid (Blk u1 b2 sm1 36):=G6.out.below hb1
 refine hK.out _ _ ⟨hHeld.1.below hb1,hHeld.2.1.below hb1,(hb1.cell (p:=⟨P.pb,16,none⟩) (lt_of_cell hHeld.2.2.1)).trans hHeld.2.2.1,hHeld.2.2.2.block (hb1.block _ hHeld.2.2.2.lt)⟩ ?_
 clear hK K hHeld hb1 KU G6
 intro hHeld
 try simp only [Act.put,zaa,zba,zca]
 refine tma 12 50 rfl ?_
 refine rda 13 ⟨some 51,_,_,_,_,none⟩ rfl fun K hK=> ?_
 go_simp
 go_wp2_with (go_at_call 54;refine Calls.mono (RF.out O _ (HM.out.below K1.out)) ?_;rintro e u2 ⟨rfl,htx⟩)
 have TX:Hid (Tx O u1 (fun O' V=>Mn O' n V M Q T root I (setA A i (some { P with st:=raiseS P.st ad cd })) B) u2):=htx
 have S2:Hid (Blk u2 b1 (su oq k1 k2 k3 k4 k5 ad sz x k6 k7 k8 k9) 70/\Blk u2 b3 (sh1 wq true false) 124/\u2.cell? ⟨P.pb,16,none⟩=some (.map (some P.lb))/\MapL u2 P.lb n P.F):=by
  obtain ⟨O',m,e1,e2,k⟩:=htx
  have q:=m.prs i _ HI.out.1 (setA_same _ _ _)
  exact ⟨k.blk hHeld.1 (OB.out _ NB.out.1),k.blk hHeld.2.1 (OB.out _ NB.out.2.2.2.1),q.pro.cell 16,q.led⟩
 have Z2:Hid (Blk u2 b2 sm1 36):=htx.choose_spec.2.2.2.blk Z1.out (OB.out _ NB.out.2.1)
 have L2:b2<u1.heap.size:=Z1.out.lt
 refine hK.out _ _ S2.out ?_
 clear hK K hHeld htx S2 Z1
 intro hHeld
 try simp only [Act.put,zaa,zba,zca]
 refine rda 14 ⟨none,.store 36 (.tmp 6) (.tmp 51),_,_,_,none⟩ rfl fun K hK=> ?_
 refine wanted_mp2 rfl ?_
 have th:u2.there b2 0 6:=Z2.out.there
 refine wp_store_mid _ _ _ rfl b2 0 (sw 0 0 9 ad cd rb) rfl rfl th kc kq1 ?_
 (try simp only [List.toList_toArray])
 have gk:=grown_setCells b2 (sx 0 0 9 ad cd rb) 0 u2
 have F9:Hid (Blk (u2.setCells b2 0 (sx 0 0 9 ad cd rb)) b2 (sx 0 0 9 ad cd rb) 36):=Z2.out.put rfl
 have HE:Hid (Tx O W (fun O' V=>Mn O' n V M Q T root I (setA A i (some { P with st:=raiseS P.st ad cd })) B) (u2.setCells b2 0 (sx 0 0 9 ad cd rb))):=Tx.to (fun O V V' m hs hk=>m.keep hs hk) K1.out TX.out NB.out.2.1 L2 (OB.out _ NB.out.2.1) gk
 have S9:Hid (Blk (u2.setCells b2 0 (sx 0 0 9 ad cd rb)) b1 (su oq k1 k2 k3 k4 k5 ad sz x k6 k7 k8 k9) 70/\Blk (u2.setCells b2 0 (sx 0 0 9 ad cd rb)) b3 (sh1 wq true false) 124/\(u2.setCells b2 0 (sx 0 0 9 ad cd rb)).cell? ⟨P.pb,16,none⟩=some (.map (some P.lb))/\MapL (u2.setCells b2 0 (sx 0 0 9 ad cd rb)) P.lb n P.F):=by
  have nb:=NB.out
  have lp:=HP.out.pro.lt
  have lq:=HP.out.led.lt
  exact ⟨(gk.block _ hHeld.1.lt (fun e=>nb.2.2.1 (sia e))).trans hHeld.1,(gk.block _ hHeld.2.1.lt (fun e=>nb.2.2.2.2 (sia e))).trans hHeld.2.1,(World.cell?_of_block (a:=⟨P.pb,16,none⟩) (gk.block _ (lt_of_cell hHeld.2.2.1) (fun e=>by have:=sia e;have e2:P.pb=b2:=this;omega))).trans hHeld.2.2.1,hHeld.2.2.2.block (gk.block _ hHeld.2.2.2.lt (fun e=>by have:=sia e;omega))⟩
 clear gk TX L2 K1
 generalize u2.setCells b2 0 (sx 0 0 9 ad cd rb)=u3 at *
 refine hK.out _ _ S9.out ?_
 clear hK K hHeld th S9 Z2
 intro hHeld
 try simp only [Act.put,zaa,zba,zca]
 clear hHeld
 refine wpAnyH_done kc ?_ _
 refine NoPanic.normal ?_
 have LV:(loadVar 36 ⟨b2,0,none⟩).run Tryz.prog u3=.ok (.agg (sw 0 0 9 ad cd rb)) u3:=run_loadVar_mid (P:=Tryz.prog) _ b2 0 36 (sx 0 0 9 ad cd rb) _ F9.out.range Tryz.underlying36 rfl kc
 go_wp2_with fail
 refine bodyPost_ret (v:=.agg (sw 0 0 9 ad cd rb)) (results_one Tryz.results33 _ _ _ ⟨b2,0,none⟩ _ rfl LV) rfl ?_
 exact ⟨rfl,HE.out⟩
def updB (B:Nat->Nat->Int) (c:Nat) (b:Nat->Int):Nat->Nat->Int:=fun y=>if y=c then b else B y
theorem updB_same (B:Nat->Nat->Int) (c:Nat) (b:Nat->Int):updB B c b c=b:=if_pos rfl
theorem updB_other (B:Nat->Nat->Int) (c:Nat) (b:Nat->Int) (y:Nat) (h:y≠c):updB B c b y=B y:=if_neg h
def O9 (O:Nat->Nat) (c:Nat):Nat->Nat:=fun j=>if j=c then 9 else O j
theorem Mn.page (h:Mn O n W M Q T root I A B) {zs:Array Value} (hz: ∀ i,i<4096->zs[i]? =some (.int .u8 0)):Mn (O9 O W.heap.size) n (W.alloc (.cells zs 135)) M Q T root I A (updB B W.heap.size (fun _=>0)):=by
 have hb:bc W (W.alloc (.cells zs 135)):=baa
 have q:=h.below hb
 have eo: ∀ j,O j≠0->O9 O W.heap.size j=O j:=fun j hj=>if_neg (by have:=h.lt j hj;omega)
 have sz:(W.alloc (.cells zs 135)).heap.size=W.heap.size+1:=World.size_alloc _ _
 refine ⟨q.mod,q.que,q.tre,q.goo,q.gra,q.prm,fun i P hi e=>(h.prs i P hi e).keep (Nat.le_refl _) hb.size eo (fun j h1 h2=>hb.block j (h.lt j (by omega))),fun c hc=> ?_,?_,?_,?_,?_,fun j hj=> ?_⟩
 . by_cases e:c=W.heap.size
   . subst e;rw [updB_same];exact ⟨page_made W zs hz,fun _=>⟨by omega,by omega⟩⟩
   . rw [updB_other _ _ _ _ e]
     have hc':O c=9:=by have:O9 O W.heap.size c=O c:=if_neg e;rw [<- this];exact hc
     exact ⟨page_block (h.pag c hc').1 (hb.block c (h.lt c (by omega))),(h.pag c hc').2⟩
 . rw [eo _ kn1];exact h.o1
 . rw [eo _ kp1];exact h.o2
 . rw [eo _ (by rw [h.o3];omega)];exact h.o3
 . rw [eo _ (by rw [h.o4];omega)];exact h.o4
 . rw [sz]
   by_cases e:j=W.heap.size
   . omega
   . have:O9 O W.heap.size j=O j:=if_neg e
     rw [this] at hj;have:=h.lt j hj;omega
theorem Mn.poke (h:Mn O n W M Q T root I A B) {V:World} {c:Nat} {b:Nat->Int} (hc:O c=9) (hg:W.grownBy V (some c)) (hp:Page V c b) (hb: ∀ i,0<=b i/\b i<256):Mn O n V M Q T root I A (updB B c b)/\Ko O W V:=by
 have k: ∀ j,O j≠0->O j≠9->V.heap[j]? =W.heap[j]? :=fun j h0 h9=>hg.block j (h.lt j h0) (fun e=>h9 (by rw [sia e];exact hc))
 refine ⟨⟨h.mod.block hg.size (k _ kn1 kn1),h.que.kept fun _=>k _ kp1 kp1,tree_block h.tre hg.size (k _ (by rw [h.o3];omega) (by rw [h.o3];omega)),h.goo,tab_block h.gra hg.size (k _ kn1 kn1),h.prm.block (k _ (by rw [h.o4];omega) (by rw [h.o4];omega)),fun i P hi e=>(h.prs i P hi e).keep (Nat.le_refl _) hg.size (fun _ _=>rfl) (fun j h1 h2=>k j (by omega) (by omega)),fun d hd=> ?_,h.o1,h.o2,h.o3,h.o4,fun j hj=>nla (h.lt j hj) hg.size⟩,kept_grown hg (fun j hj=>⟨fun e=>by have:=hj.1;rw [e,hc] at this;omega,hj.2⟩)⟩
 by_cases e:d=c
 . subst e;rw [updB_same];exact ⟨hp,hb⟩
 . rw [updB_other _ _ _ _ e]
   exact ⟨page_block (h.pag d hd).1 (hg.block d (h.lt d (by omega)) (fun q=>e (sia q))),(h.pag d hd).2⟩
theorem Mn.sta (n:Nat) (M:Mb) (Q:Ca.Qu) (T:Nat->Qo.Nd) (root:Int) (I:Nat->Sh.Gr) (A:Nat->Option Pr) (B:Nat->Nat->Int):Sta (fun O w=>Mn O n w M Q T root I A B):=fun O V V' h hs hk=>h.keep hs hk
theorem grown_below {w w':World} (h:bc w w') (r:Option Nat):w.grownBy w' r:=⟨h.os,h.tape,h.output,h.size,fun k hk _=>h.block k hk⟩
theorem Mn.load_there (h:Mn O n W M Q T root I A B) {i:Nat} {P:Pr} (hi:i<16) (hA:A i=some P) (k1 k2:Int) (k3 k4 k5:Bool) (ad sz x k6 k7 k8 k9:Int) (p:Int) (hp:ad / 4096=p) (a0:0<=ad) (a1:ad<140737488355328) (g1 g2 gk:Int) (gw gu gx:Bool) (hz:Re.findR P.L p=(⟨g1,g2,gw,gu,gx,gk⟩,true)) (hy:mayV gw gu gx false true false=true) (s0:0<=sz) (s8:sz<=8) (am:ad % 4096+sz<=4096) (c:Nat) (hF:P.F p=some c) :
 Calls Tryz.prog 33 #[pp M.mb,pp P.pb,.agg (sq 4 k1 k2 k3 k4 k5 ad sz x k6 k7 k8 k9)] W (re (.agg (sw 0 (le (B c) (ad % 4096).toNat sz.toNat) 0 0 0 false)) W):=by
 obtain ⟨X,hX⟩: ∃ X:Int,X=le (B c) (ad % 4096).toNat sz.toNat:=⟨_,rfl⟩
 rw [<- hX]
 have HXX:Hid (X=le (B c) (ad % 4096).toNat sz.toNat):=hX
 clear hX
 have HS:Hid (0<=sz/\sz<=8/\ad % 4096+sz<=4096):=⟨s0,s8,am⟩
 clear s0 s8 am
 have HF:Hid (P.F p=some c):=hF
 clear hF
 have FC:Hid (∀ w:World,bc W w->Calls Tryz.prog 52 #[.slice P.rp P.L.length P.rc,.int .i64 p] w (re (.tuple #[.agg (s7 g1 g2 gw gu gx gk),.bool true]) w)):=fun w hb=>by
  have q:=Re.find_any 0 P.rp P.rc P.L (h.prs i P hi hA).few p w ((h.prs i P hi hA).lis.below hb)
  rw [hz] at q;exact q
 have YC:Hid (∀ w:World,Calls Tryz.prog 53 #[.agg (s9 gw gu gx),.agg st1] w (re (.bool true) w)):=fun w=>by
  have q:=may_any gw gu gx false true false w
  rw [hy] at q;exact q
 have s1:(W.alloc (.cells (sq 4 k1 k2 k3 k4 k5 ad sz x k6 k7 k8 k9) 70)).heap.size=W.heap.size+1:=World.size_alloc _ _
 have s2:((W.alloc (.cells (sq 4 k1 k2 k3 k4 k5 ad sz x k6 k7 k8 k9) 70)).alloc (.cells sl1 36)).heap.size=W.heap.size+1+1:=ku
 have G0:Hid (bc W (((W.alloc (.cells (sq 4 k1 k2 k3 k4 k5 ad sz x k6 k7 k8 k9) 70)).alloc (.cells sl1 36)).alloc (.cells st1 124))/\Blk (((W.alloc (.cells (sq 4 k1 k2 k3 k4 k5 ad sz x k6 k7 k8 k9) 70)).alloc (.cells sl1 36)).alloc (.cells st1 124)) W.heap.size (su 4 k1 k2 k3 k4 k5 ad sz x k6 k7 k8 k9) 70/\Blk (((W.alloc (.cells (sq 4 k1 k2 k3 k4 k5 ad sz x k6 k7 k8 k9) 70)).alloc (.cells sl1 36)).alloc (.cells st1 124)) (W.heap.size+1) sm1 36/\Blk (((W.alloc (.cells (sq 4 k1 k2 k3 k4 k5 ad sz x k6 k7 k8 k9) 70)).alloc (.cells sl1 36)).alloc (.cells st1 124)) (W.heap.size+1+1) ss1 124):=by
  have b1:bc (W.alloc (.cells (sq 4 k1 k2 k3 k4 k5 ad sz x k6 k7 k8 k9) 70)) ((W.alloc (.cells (sq 4 k1 k2 k3 k4 k5 ad sz x k6 k7 k8 k9) 70)).alloc (.cells sl1 36)):=baa
  have b2:bc ((W.alloc (.cells (sq 4 k1 k2 k3 k4 k5 ad sz x k6 k7 k8 k9) 70)).alloc (.cells sl1 36)) (((W.alloc (.cells (sq 4 k1 k2 k3 k4 k5 ad sz x k6 k7 k8 k9) 70)).alloc (.cells sl1 36)).alloc (.cells st1 124)):=baa
  refine ⟨below_then (below_then baa b1) b2,((Blk.made _ _ _).below b1).below b2,?_,?_⟩
  . exact kw1
  . exact kx1
 have HM:Hid (Mn O n W M Q T root I A B):=h
 have HI:Hid (i<16/\A i=some P):=⟨hi,hA⟩
 have HP:Hid (IsPr O n i W P):=h.prs i P hi hA
 have HA:Hid (ad / 4096=p/\0<=ad/\ad<140737488355328):=⟨hp,a0,a1⟩
 clear h hi hA s1 s2 hz hy
 go_enter Tryz.func33,Tryz.ntmps33
 go_upto_region 3 with fail
 generalize (((W.alloc (.cells (sq 4 k1 k2 k3 k4 k5 ad sz x k6 k7 k8 k9) 70)).alloc (.cells sl1 36)).alloc (.cells st1 124))=V3 at G0 |-
 obtain ⟨b3,hb3⟩: ∃ b3,b3=W.heap.size+1+1:=⟨_,rfl⟩
 obtain ⟨b2,hb2⟩: ∃ b2,b2=W.heap.size+1:=⟨_,rfl⟩
 obtain ⟨b1,hb1⟩: ∃ b1,b1=W.heap.size:=⟨_,rfl⟩
 have G1:Hid (bc W V3/\Blk V3 b1 (su 4 k1 k2 k3 k4 k5 ad sz x k6 k7 k8 k9) 70/\Blk V3 b2 sm1 36/\Blk V3 b3 ss1 124):=by rw [hb3,hb2,hb1];exact G0.out
 have NB:Hid (W.heap.size<=b1/\W.heap.size<=b2/\b1≠b2/\W.heap.size<=b3/\b3≠b2):=⟨by omega,by omega,by omega,by omega,by omega⟩
 rw [<- hb3,<- hb2,<- hb1]
 clear hb1 hb2 hb3 G0
 have OB:Hid (∀ b,W.heap.size<=b->O b=0):=fun b hb=>bca fun hh=>by have:=HM.out.lt b hh;omega
 have c15:V3.cell? ⟨P.pb,15,none⟩=some (.slice P.rp P.L.length P.rc):=(HP.out.pro.below G1.out.1).cell 15
 clear hp a0 a1
 go_wp2_with fail
 refine Calls.mono (FC.out _ G1.out.1) ?_
 rintro e w4 ⟨rfl,hb4⟩
 have G4:Hid (bc W (w4.alloc (.cells (s7 g1 g2 gw gu gx gk) 126))/\Blk (w4.alloc (.cells (s7 g1 g2 gw gu gx gk) 126)) b1 (su 4 k1 k2 k3 k4 k5 ad sz x k6 k7 k8 k9) 70/\Blk (w4.alloc (.cells (s7 g1 g2 gw gu gx gk) 126)) b2 sm1 36/\Blk (w4.alloc (.cells (s7 g1 g2 gw gu gx gk) 126)) b3 ss1 124/\Blk (w4.alloc (.cells (s7 g1 g2 gw gu gx gk) 126)) w4.heap.size (sy g1 g2 gw gu gx gk) 126):=by
  have b5:bc w4 (w4.alloc (.cells (s7 g1 g2 gw gu gx gk) 126)):=baa
  have b6:=below_then hb4 b5
  exact ⟨below_then G1.out.1 b6,G1.out.2.1.below b6,G1.out.2.2.1.below b6,G1.out.2.2.2.below b6,Blk.made _ _ _⟩
 clear hb4 FC c15 G1
 go_upto_region 4 with fail
 generalize (w4.alloc (.cells (s7 g1 g2 gw gu gx gk) 126))=V5 at G4 |-
 obtain ⟨q,hq⟩: ∃ q,q=w4.heap.size:=⟨_,rfl⟩
 have G5:Hid (bc W V5/\Blk V5 b1 (su 4 k1 k2 k3 k4 k5 ad sz x k6 k7 k8 k9) 70/\Blk V5 b2 sm1 36/\Blk V5 b3 ss1 124/\Blk V5 q (sy g1 g2 gw gu gx gk) 126):=by rw [hq];exact G4.out
 rw [<- hq]
 clear hq G4
 have x2:V5.cell? ⟨q,2,none⟩=some (.bool gw):=G5.out.2.2.2.2.cell 2
 have x3:V5.cell? ⟨q,3,none⟩=some (.bool gu):=G5.out.2.2.2.2.cell 3
 have x4:V5.cell? ⟨q,4,none⟩=some (.bool gx):=G5.out.2.2.2.2.cell 4
 have y0:V5.cell? ⟨b3,0,none⟩=some (.bool false):=G5.out.2.2.2.1.cell 0
 have y1:V5.cell? ⟨b3,1,none⟩=some (.bool true):=G5.out.2.2.2.1.cell 1
 have y2:V5.cell? ⟨b3,2,none⟩=some (.bool false):=G5.out.2.2.2.1.cell 2
 go_wp2_with fail
 refine Calls.mono (YC.out _) ?_
 rintro e V ⟨rfl,hb6⟩
 have G6:Hid (bc W V/\Blk V b1 (su 4 k1 k2 k3 k4 k5 ad sz x k6 k7 k8 k9) 70/\Blk V b2 sm1 36/\Blk V b3 ss1 124):=⟨below_then G5.out.1 hb6,G5.out.2.1.below hb6,G5.out.2.2.1.below hb6,G5.out.2.2.2.1.below hb6⟩
 clear hb6 YC x2 x3 x4 y0 y1 y2 G5
 have M7:Hid (Mn O n V M Q T root I A B):=HM.out.below G6.out.1
 have HPW:Hid ((Lit.int .i64 p).wf=true):=wf64 (by have:=HA.out;omega) (by have:=HA.out;omega)
 have c16:V.cell? ⟨P.pb,16,none⟩=some (.map (some P.lb)):=(M7.out.prs i P HI.out.1 HI.out.2).pro.cell 16
 have lk:(Instr.lookup 85 (.map (some P.lb)) (.int .i64 p) false).run Tryz.prog V=.ok (.pointer (some ⟨c,0,none⟩)) V:=by
  have q:=(M7.out.prs i P HI.out.1 HI.out.2).led.look HPW.out
  rw [HF.out] at q;exact q
 have O9C:Hid (O c=9):=HP.out.con p c HF.out
 have HBB:Hid (∀ i,0<=B c i/\B c i<256):=(HM.out.pag c O9C.out).2
 have G7:Hid (Blk V b1 (su 4 k1 k2 k3 k4 k5 ad sz x k6 k7 k8 k9) 70/\Blk V b2 sm1 36):=⟨G6.out.2.1,G6.out.2.2.1⟩
 have OB1:Hid (O b2=0):=OB.out b2 NB.out.2.1
 have K7:Hid (bc W V):=G6.out.1
 have NE:Hid ((b1≠c/\P.pb≠c/\P.lb≠c/\b2≠c)/\b1≠b2/\P.pb≠b2/\P.lb≠b2/\b2≠b1):=by
  have nb:=NB.out
  have l5:=HP.out.pro.lt
  have l7:=HP.out.led.lt
  have o5:=HP.out.o0
  have o7:=HP.out.o1
  have oc:=O9C.out
  have lc:=HM.out.lt c (by omega)
  exact ⟨⟨by omega,fun e=>by rw [e] at o5;omega,fun e=>by rw [e] at o7;omega,by omega⟩,nb.2.2.1,by omega,by omega,Ne.symm nb.2.2.1⟩
 clear G6
 have MC:Hid (∀ w:World,Page w c (B c)->c<w.heap.size->Calls Tryz.prog 57 #[pp c,.agg (sq 4 k1 k2 k3 k4 k5 ad sz x k6 k7 k8 k9)] w (re (.agg (sw 0 X 0 0 0 false)) w)):=fun w hw hl=>by
  have q:=move_load c (B c) k1 k2 k3 k4 k5 ad sz x k6 k7 k8 k9 w hw HBB.out hl HA.out.2.1 HA.out.2.2 HS.out.1 HS.out.2.1 HS.out.2.2
  rw [<- HXX.out] at q;exact q
 have BS:Hid (Blk V b1 (su 4 k1 k2 k3 k4 k5 ad sz x k6 k7 k8 k9) 70/\V.cell? ⟨P.pb,16,none⟩=some (.map (some P.lb))/\MapL V P.lb n P.F):=⟨G7.out.1,(M7.out.prs i P HI.out.1 HI.out.2).pro.cell 16,(M7.out.prs i P HI.out.1 HI.out.2).led⟩
 have LKC:Hid (∀ w:World,MapL w P.lb n P.F->(Instr.lookup 85 (.map (some P.lb)) (.int .i64 p) false).run Tryz.prog w=.ok (.pointer (some ⟨c,0,none⟩)) w):=fun w hw=>by
  have q:=hw.look HPW.out
  rw [HF.out] at q;exact q
 have PG:Hid (Page V c (B c)/\c<V.heap.size):=by
  have q:=(M7.out.pag c O9C.out).1
  skip
  exact ⟨q,M7.out.lt c (by rw [O9C.out];omega)⟩
 have B2:Hid (Blk V b2 sm1 36):=G7.out.2
 go_upto_region 10 with fail
 refine hda (fun cw=>Blk cw b1 (su 4 k1 k2 k3 k4 k5 ad sz x k6 k7 k8 k9) 70/\cw.cell? ⟨P.pb,16,none⟩=some (.map (some P.lb))/\MapL cw P.lb n P.F) BS.out fun hHeld=> ?_
 have KU:Hid (bc V V.drew):=below_drew (Below.refl _ _)
 change Hid (Page V.drew c (B c)/\c<V.drew.heap.size) at PG
 change Hid (Blk V.drew b2 sm1 36) at B2
 clear BS
 generalize V.drew=U at hHeld KU PG B2 |-
 refine tma 0 69 rfl ?_
 refine tma 1 70 rfl ?_
 refine tma 2 71 rfl ?_
 refine tla 3 72 ((.map (some P.lb))) rfl ?_ ?_
 . exact ky1
 refine tma 4 73 rfl ?_
 refine tla 5 74 ((.pointer (some ⟨c,0,none⟩))) rfl ?_ ?_
 . exact kz1
 refine tla 6 75 (.agg (sq 4 k1 k2 k3 k4 k5 ad sz x k6 k7 k8 k9)) rfl ?_ ?_
 . exact k01
 refine rda 7 ⟨some 76,_,_,_,_,none⟩ rfl fun K hK=> ?_
 go_simp
 go_wp2_with (go_at_call 57;refine Calls.mono (MC.out _ PG.out.1 PG.out.2) ?_;rintro e u8 ⟨rfl,hb8⟩)
 have KU8:Hid (bc V u8):=below_then KU.out hb8
 have B28:Hid (Blk u8 b2 sm1 36):=B2.out.below hb8
 refine hK.out _ _ ⟨hHeld.1.below hb8,(hb8.cell (p:=⟨P.pb,16,none⟩) (lt_of_cell hHeld.2.1)).trans hHeld.2.1,hHeld.2.2.block (hb8.block _ hHeld.2.2.lt)⟩ ?_
 clear hK K hHeld hb8 KU
 intro hHeld
 try simp only [Act.put,zaa,zba,zca]
 refine rda 8 ⟨none,.store 36 (.tmp 6) (.tmp 76),_,_,_,none⟩ rfl fun K hK=> ?_
 refine wanted_mp2 rfl ?_
 have th:u8.there b2 0 6:=B28.out.there
 refine wp_store_mid _ _ _ rfl b2 0 (sw 0 X 0 0 0 false) rfl rfl th kc kq1 ?_
 (try simp only [List.toList_toArray])
 have gk:=grown_setCells b2 (sx 0 X 0 0 0 false) 0 u8
 have ne:b1≠b2/\P.pb≠b2/\P.lb≠b2/\b2≠b1:=NE.out.2
 have F9:Hid (Blk (u8.setCells b2 0 (sx 0 X 0 0 0 false)) b2 (sx 0 X 0 0 0 false) 36):=B28.out.put rfl
 have S9:Hid (Blk (u8.setCells b2 0 (sx 0 X 0 0 0 false)) b1 (su 4 k1 k2 k3 k4 k5 ad sz x k6 k7 k8 k9) 70/\(u8.setCells b2 0 (sx 0 X 0 0 0 false)).cell? ⟨P.pb,16,none⟩=some (.map (some P.lb))/\MapL (u8.setCells b2 0 (sx 0 X 0 0 0 false)) P.lb n P.F):=⟨(gk.block _ hHeld.1.lt (fun e=>ne.1 (sia e))).trans hHeld.1,(World.cell?_of_block (a:=⟨P.pb,16,none⟩) (gk.block _ (lt_of_cell hHeld.2.1) (fun e=>ne.2.1 (sia e)))).trans hHeld.2.1,hHeld.2.2.block (gk.block _ hHeld.2.2.lt (fun e=>ne.2.2.1 (sia e)))⟩
 have HE:Hid (bc W (u8.setCells b2 0 (sx 0 X 0 0 0 false))):=by
  exact below_put (below_then K7.out KU8.out) NB.out.2.1 _
 clear gk ne
 generalize u8.setCells b2 0 (sx 0 X 0 0 0 false)=u9 at *
 refine hK.out _ _ S9.out ?_
 clear hK K hHeld th S9 B28 KU8
 intro hHeld
 try simp only [Act.put,zaa,zba,zca]
 clear hHeld
 refine wpAnyH_done kc ?_ _
 refine NoPanic.normal ?_
 have LV:(loadVar 36 ⟨b2,0,none⟩).run Tryz.prog u9=.ok (.agg (sw 0 X 0 0 0 false)) u9:=run_loadVar_mid (P:=Tryz.prog) _ b2 0 36 (sx 0 X 0 0 0 false) _ F9.out.range Tryz.underlying36 rfl kc
 go_wp2_with fail
 refine bodyPost_ret (v:=.agg (sw 0 X 0 0 0 false)) (results_one Tryz.results33 _ _ _ ⟨b2,0,none⟩ _ rfl LV) rfl ?_
 exact ⟨rfl,HE.out⟩
theorem Mn.store_there (h:Mn O n W M Q T root I A B) {i:Nat} {P:Pr} (hi:i<16) (hA:A i=some P) (k1 k2:Int) (k3 k4 k5:Bool) (ad sz x k6 k7 k8 k9:Int) (p:Int) (hp:ad / 4096=p) (a0:0<=ad) (a1:ad<140737488355328) (g1 g2 gk:Int) (gw gu gx:Bool) (hz:Re.findR P.L p=(⟨g1,g2,gw,gu,gx,gk⟩,true)) (hy:mayV gw gu gx true true false=true) (s0:0<=sz) (s8:sz<=8) (am:ad % 4096+sz<=4096) (x0:0<=x) (x1:x<18446744073709551616) (c:Nat) (hF:P.F p=some c) :
 Calls Tryz.prog 33 #[pp M.mb,pp P.pb,.agg (sq 5 k1 k2 k3 k4 k5 ad sz x k6 k7 k8 k9)] W fun e w'=>e=.returned (.agg sl1)/\Tx O W (fun O' V=>Mn O' n V M Q T root I A (updB B c (cset (B c) (ad % 4096).toNat sz.toNat x))) w':=by
 have HS:Hid (0<=sz/\sz<=8/\ad % 4096+sz<=4096/\0<=x/\x<18446744073709551616):=⟨s0,s8,am,x0,x1⟩
 clear s0 s8 am x0 x1
 have HF:Hid (P.F p=some c):=hF
 clear hF
 have FC:Hid (∀ w:World,bc W w->Calls Tryz.prog 52 #[.slice P.rp P.L.length P.rc,.int .i64 p] w (re (.tuple #[.agg (s7 g1 g2 gw gu gx gk),.bool true]) w)):=fun w hb=>by
  have q:=Re.find_any 0 P.rp P.rc P.L (h.prs i P hi hA).few p w ((h.prs i P hi hA).lis.below hb)
  rw [hz] at q;exact q
 have YC:Hid (∀ w:World,Calls Tryz.prog 53 #[.agg (s9 gw gu gx),.agg sv1] w (re (.bool true) w)):=fun w=>by
  have q:=may_any gw gu gx true true false w
  rw [hy] at q;exact q
 have s1:(W.alloc (.cells (sq 5 k1 k2 k3 k4 k5 ad sz x k6 k7 k8 k9) 70)).heap.size=W.heap.size+1:=World.size_alloc _ _
 have s2:((W.alloc (.cells (sq 5 k1 k2 k3 k4 k5 ad sz x k6 k7 k8 k9) 70)).alloc (.cells sl1 36)).heap.size=W.heap.size+1+1:=ku
 have G0:Hid (bc W (((W.alloc (.cells (sq 5 k1 k2 k3 k4 k5 ad sz x k6 k7 k8 k9) 70)).alloc (.cells sl1 36)).alloc (.cells sv1 124))/\Blk (((W.alloc (.cells (sq 5 k1 k2 k3 k4 k5 ad sz x k6 k7 k8 k9) 70)).alloc (.cells sl1 36)).alloc (.cells sv1 124)) W.heap.size (su 5 k1 k2 k3 k4 k5 ad sz x k6 k7 k8 k9) 70/\Blk (((W.alloc (.cells (sq 5 k1 k2 k3 k4 k5 ad sz x k6 k7 k8 k9) 70)).alloc (.cells sl1 36)).alloc (.cells sv1 124)) (W.heap.size+1) sm1 36/\Blk (((W.alloc (.cells (sq 5 k1 k2 k3 k4 k5 ad sz x k6 k7 k8 k9) 70)).alloc (.cells sl1 36)).alloc (.cells sv1 124)) (W.heap.size+1+1) su1 124):=by
  have b1:bc (W.alloc (.cells (sq 5 k1 k2 k3 k4 k5 ad sz x k6 k7 k8 k9) 70)) ((W.alloc (.cells (sq 5 k1 k2 k3 k4 k5 ad sz x k6 k7 k8 k9) 70)).alloc (.cells sl1 36)):=baa
  have b2:bc ((W.alloc (.cells (sq 5 k1 k2 k3 k4 k5 ad sz x k6 k7 k8 k9) 70)).alloc (.cells sl1 36)) (((W.alloc (.cells (sq 5 k1 k2 k3 k4 k5 ad sz x k6 k7 k8 k9) 70)).alloc (.cells sl1 36)).alloc (.cells sv1 124)):=baa
  refine ⟨below_then (below_then baa b1) b2,((Blk.made _ _ _).below b1).below b2,?_,?_⟩
  . exact kw1
  . exact kx1
 have HM:Hid (Mn O n W M Q T root I A B):=h
 have HI:Hid (i<16/\A i=some P):=⟨hi,hA⟩
 have HP:Hid (IsPr O n i W P):=h.prs i P hi hA
 have HA:Hid (ad / 4096=p/\0<=ad/\ad<140737488355328):=⟨hp,a0,a1⟩
 clear h hi hA s1 s2 hz hy
 go_enter Tryz.func33,Tryz.ntmps33
 go_upto_region 3 with fail
 generalize (((W.alloc (.cells (sq 5 k1 k2 k3 k4 k5 ad sz x k6 k7 k8 k9) 70)).alloc (.cells sl1 36)).alloc (.cells sv1 124))=V3 at G0 |-
 obtain ⟨b3,hb3⟩: ∃ b3,b3=W.heap.size+1+1:=⟨_,rfl⟩
 obtain ⟨b2,hb2⟩: ∃ b2,b2=W.heap.size+1:=⟨_,rfl⟩
 obtain ⟨b1,hb1⟩: ∃ b1,b1=W.heap.size:=⟨_,rfl⟩
 have G1:Hid (bc W V3/\Blk V3 b1 (su 5 k1 k2 k3 k4 k5 ad sz x k6 k7 k8 k9) 70/\Blk V3 b2 sm1 36/\Blk V3 b3 su1 124):=by rw [hb3,hb2,hb1];exact G0.out
 have NB:Hid (W.heap.size<=b1/\W.heap.size<=b2/\b1≠b2/\W.heap.size<=b3/\b3≠b2):=⟨by omega,by omega,by omega,by omega,by omega⟩
 rw [<- hb3,<- hb2,<- hb1]
 clear hb1 hb2 hb3 G0
 have OB:Hid (∀ b,W.heap.size<=b->O b=0):=fun b hb=>bca fun hh=>by have:=HM.out.lt b hh;omega
 have c15:V3.cell? ⟨P.pb,15,none⟩=some (.slice P.rp P.L.length P.rc):=(HP.out.pro.below G1.out.1).cell 15
 clear hp a0 a1
 go_wp2_with fail
 refine Calls.mono (FC.out _ G1.out.1) ?_
 rintro e w4 ⟨rfl,hb4⟩
 have G4:Hid (bc W (w4.alloc (.cells (s7 g1 g2 gw gu gx gk) 126))/\Blk (w4.alloc (.cells (s7 g1 g2 gw gu gx gk) 126)) b1 (su 5 k1 k2 k3 k4 k5 ad sz x k6 k7 k8 k9) 70/\Blk (w4.alloc (.cells (s7 g1 g2 gw gu gx gk) 126)) b2 sm1 36/\Blk (w4.alloc (.cells (s7 g1 g2 gw gu gx gk) 126)) b3 su1 124/\Blk (w4.alloc (.cells (s7 g1 g2 gw gu gx gk) 126)) w4.heap.size (sy g1 g2 gw gu gx gk) 126):=by
  have b5:bc w4 (w4.alloc (.cells (s7 g1 g2 gw gu gx gk) 126)):=baa
  have b6:=below_then hb4 b5
  exact ⟨below_then G1.out.1 b6,G1.out.2.1.below b6,G1.out.2.2.1.below b6,G1.out.2.2.2.below b6,Blk.made _ _ _⟩
 clear hb4 FC c15 G1
 go_upto_region 4 with fail
 generalize (w4.alloc (.cells (s7 g1 g2 gw gu gx gk) 126))=V5 at G4 |-
 obtain ⟨q,hq⟩: ∃ q,q=w4.heap.size:=⟨_,rfl⟩
 have G5:Hid (bc W V5/\Blk V5 b1 (su 5 k1 k2 k3 k4 k5 ad sz x k6 k7 k8 k9) 70/\Blk V5 b2 sm1 36/\Blk V5 b3 su1 124/\Blk V5 q (sy g1 g2 gw gu gx gk) 126):=by rw [hq];exact G4.out
 rw [<- hq]
 clear hq G4
 have x2:V5.cell? ⟨q,2,none⟩=some (.bool gw):=G5.out.2.2.2.2.cell 2
 have x3:V5.cell? ⟨q,3,none⟩=some (.bool gu):=G5.out.2.2.2.2.cell 3
 have x4:V5.cell? ⟨q,4,none⟩=some (.bool gx):=G5.out.2.2.2.2.cell 4
 have y0:V5.cell? ⟨b3,0,none⟩=some (.bool true):=G5.out.2.2.2.1.cell 0
 have y1:V5.cell? ⟨b3,1,none⟩=some (.bool true):=G5.out.2.2.2.1.cell 1
 have y2:V5.cell? ⟨b3,2,none⟩=some (.bool false):=G5.out.2.2.2.1.cell 2
 go_wp2_with fail
 refine Calls.mono (YC.out _) ?_
 rintro e V ⟨rfl,hb6⟩
 have G6:Hid (bc W V/\Blk V b1 (su 5 k1 k2 k3 k4 k5 ad sz x k6 k7 k8 k9) 70/\Blk V b2 sm1 36/\Blk V b3 su1 124):=⟨below_then G5.out.1 hb6,G5.out.2.1.below hb6,G5.out.2.2.1.below hb6,G5.out.2.2.2.1.below hb6⟩
 clear hb6 YC x2 x3 x4 y0 y1 y2 G5
 have M7:Hid (Mn O n V M Q T root I A B):=HM.out.below G6.out.1
 have HPW:Hid ((Lit.int .i64 p).wf=true):=wf64 (by have:=HA.out;omega) (by have:=HA.out;omega)
 have c16:V.cell? ⟨P.pb,16,none⟩=some (.map (some P.lb)):=(M7.out.prs i P HI.out.1 HI.out.2).pro.cell 16
 have lk:(Instr.lookup 85 (.map (some P.lb)) (.int .i64 p) false).run Tryz.prog V=.ok (.pointer (some ⟨c,0,none⟩)) V:=by
  have q:=(M7.out.prs i P HI.out.1 HI.out.2).led.look HPW.out
  rw [HF.out] at q;exact q
 have O9C:Hid (O c=9):=HP.out.con p c HF.out
 have HBB:Hid (∀ i,0<=B c i/\B c i<256):=(HM.out.pag c O9C.out).2
 have G7:Hid (Blk V b1 (su 5 k1 k2 k3 k4 k5 ad sz x k6 k7 k8 k9) 70/\Blk V b2 sm1 36):=⟨G6.out.2.1,G6.out.2.2.1⟩
 have OB1:Hid (O b2=0):=OB.out b2 NB.out.2.1
 have K7:Hid (Ko O W V/\W.heap.size<=V.heap.size):=⟨Ko.of_below G6.out.1,G6.out.1.size⟩
 have NE:Hid ((b1≠c/\P.pb≠c/\P.lb≠c/\b2≠c)/\b1≠b2/\P.pb≠b2/\P.lb≠b2/\b2≠b1):=by
  have nb:=NB.out
  have l5:=HP.out.pro.lt
  have l7:=HP.out.led.lt
  have o5:=HP.out.o0
  have o7:=HP.out.o1
  have oc:=O9C.out
  have lc:=HM.out.lt c (by omega)
  exact ⟨⟨by omega,fun e=>by rw [e] at o5;omega,fun e=>by rw [e] at o7;omega,by omega⟩,nb.2.2.1,by omega,by omega,Ne.symm nb.2.2.1⟩
 clear G6
 have MC:Hid (∀ w:World,Page w c (B c)->c<w.heap.size->_):=fun w hw hl=>move_store c (B c) k1 k2 k3 k4 k5 ad sz x k6 k7 k8 k9 w hw hl HA.out.2.1 HA.out.2.2 HS.out.1 HS.out.2.1 HS.out.2.2.1 HS.out.2.2.2.1 HS.out.2.2.2.2
 have BS:Hid (Blk V b1 (su 5 k1 k2 k3 k4 k5 ad sz x k6 k7 k8 k9) 70/\V.cell? ⟨P.pb,16,none⟩=some (.map (some P.lb))/\MapL V P.lb n P.F):=⟨G7.out.1,(M7.out.prs i P HI.out.1 HI.out.2).pro.cell 16,(M7.out.prs i P HI.out.1 HI.out.2).led⟩
 have LKC:Hid (∀ w:World,MapL w P.lb n P.F->(Instr.lookup 85 (.map (some P.lb)) (.int .i64 p) false).run Tryz.prog w=.ok (.pointer (some ⟨c,0,none⟩)) w):=fun w hw=>by
  have q:=hw.look HPW.out
  rw [HF.out] at q;exact q
 have PG:Hid (Page V c (B c)/\c<V.heap.size):=by
  have q:=(M7.out.pag c O9C.out).1
  skip
  exact ⟨q,M7.out.lt c (by rw [O9C.out];omega)⟩
 have B2:Hid (Blk V b2 sm1 36):=G7.out.2
 go_upto_region 10 with fail
 refine hda (fun cw=>Blk cw b1 (su 5 k1 k2 k3 k4 k5 ad sz x k6 k7 k8 k9) 70/\cw.cell? ⟨P.pb,16,none⟩=some (.map (some P.lb))/\MapL cw P.lb n P.F) BS.out fun hHeld=> ?_
 have KU:Hid (bc V V.drew):=below_drew (Below.refl _ _)
 change Hid (Page V.drew c (B c)/\c<V.drew.heap.size) at PG
 change Hid (Blk V.drew b2 sm1 36) at B2
 clear BS
 generalize V.drew=U at hHeld KU PG B2 |-
 refine tma 0 69 rfl ?_
 refine tma 1 70 rfl ?_
 refine tma 2 71 rfl ?_
 refine tla 3 72 ((.map (some P.lb))) rfl ?_ ?_
 . exact ky1
 refine tma 4 73 rfl ?_
 refine tla 5 74 ((.pointer (some ⟨c,0,none⟩))) rfl ?_ ?_
 . exact kz1
 refine tla 6 75 (.agg (sq 5 k1 k2 k3 k4 k5 ad sz x k6 k7 k8 k9)) rfl ?_ ?_
 . exact k01
 refine rda 7 ⟨some 76,_,_,_,_,none⟩ rfl fun K hK=> ?_
 go_simp
 go_wp2_with (go_at_call 57;refine Calls.mono (MC.out _ PG.out.1 PG.out.2) ?_;rintro e u8 ⟨rfl,hp8,hg8⟩)
 have ne:b1≠c/\P.pb≠c/\P.lb≠c/\b2≠c:=NE.out.1
 have KU8:Hid (Page u8 c (cset (B c) (ad % 4096).toNat sz.toNat x)/\V.grownBy u8 (some c)):=⟨hp8,grown_trans (grown_below KU.out _) hg8⟩
 have B28:Hid (Blk u8 b2 sm1 36):=(hg8.block _ B2.out.lt (fun e=>ne.2.2.2 (sia e))).trans B2.out
 have S8:Hid (Blk u8 b1 (su 5 k1 k2 k3 k4 k5 ad sz x k6 k7 k8 k9) 70/\u8.cell? ⟨P.pb,16,none⟩=some (.map (some P.lb))/\MapL u8 P.lb n P.F):=⟨(hg8.block _ hHeld.1.lt (fun e=>ne.1 (sia e))).trans hHeld.1,(World.cell?_of_block (a:=⟨P.pb,16,none⟩) (hg8.block _ (lt_of_cell hHeld.2.1) (fun e=>ne.2.1 (sia e)))).trans hHeld.2.1,hHeld.2.2.block (hg8.block _ hHeld.2.2.lt (fun e=>ne.2.2.1 (sia e)))⟩
 refine hK.out _ _ S8.out ?_
 clear hK K hHeld hp8 hg8 ne S8 KU
 intro hHeld
 try simp only [Act.put,zaa,zba,zca]
 refine rda 8 ⟨none,.store 36 (.tmp 6) (.tmp 76),_,_,_,none⟩ rfl fun K hK=> ?_
 refine wanted_mp2 rfl ?_
 have th:u8.there b2 0 6:=B28.out.there
 refine wp_store_mid _ _ _ rfl b2 0 sl1 rfl rfl th kc kq1 ?_
 (try simp only [List.toList_toArray])
 have gk:=grown_setCells b2 sm1 0 u8
 have ne:b1≠b2/\P.pb≠b2/\P.lb≠b2/\b2≠b1:=NE.out.2
 have F9:Hid (Blk (u8.setCells b2 0 sm1) b2 sm1 36):=B28.out.put rfl
 have S9:Hid (Blk (u8.setCells b2 0 sm1) b1 (su 5 k1 k2 k3 k4 k5 ad sz x k6 k7 k8 k9) 70/\(u8.setCells b2 0 sm1).cell? ⟨P.pb,16,none⟩=some (.map (some P.lb))/\MapL (u8.setCells b2 0 sm1) P.lb n P.F):=⟨(gk.block _ hHeld.1.lt (fun e=>ne.1 (sia e))).trans hHeld.1,(World.cell?_of_block (a:=⟨P.pb,16,none⟩) (gk.block _ (lt_of_cell hHeld.2.1) (fun e=>ne.2.1 (sia e)))).trans hHeld.2.1,hHeld.2.2.block (gk.block _ hHeld.2.2.lt (fun e=>ne.2.2.1 (sia e)))⟩
 have HE:Hid (Tx O W (fun O' V=>Mn O' n V M Q T root I A (updB B c (cset (B c) (ad % 4096).toNat sz.toNat x))) (u8.setCells b2 0 sm1)):=by
  obtain ⟨k1,k2⟩:=M7.out.poke O9C.out KU8.out.2 KU8.out.1 (cset_bd HBB.out _ _ _)
  have kv:Ko O W u8:=K7.out.1.trans (k2.sub fun j hj=>⟨hj.1,nla hj.2 K7.out.2⟩)
  refine ⟨O,k1.keep gk.size (fun j hj=>gk.block j (k1.lt j hj) (fun e=>hj (by rw [sia e];exact OB1.out))),(fun _ _=>rfl),fun j hj=>nla (k1.lt j hj) gk.size,kv.trans ⟨gk.os,gk.tape,gk.output,gk.size,fun j hj=>gk.block j (nla hj.2 kv.size) (fun e=>by have:=sia e;have:=NB.out;omega)⟩⟩
 clear gk ne
 generalize u8.setCells b2 0 sm1=u9 at *
 refine hK.out _ _ S9.out ?_
 clear hK K hHeld th S9 B28 KU8
 intro hHeld
 try simp only [Act.put,zaa,zba,zca]
 clear hHeld
 refine wpAnyH_done kc ?_ _
 refine NoPanic.normal ?_
 have LV:(loadVar 36 ⟨b2,0,none⟩).run Tryz.prog u9=.ok (.agg sl1) u9:=run_loadVar_mid (P:=Tryz.prog) _ b2 0 36 sm1 _ F9.out.range Tryz.underlying36 rfl kc
 go_wp2_with fail
 refine bodyPost_ret (v:=.agg sl1) (results_one Tryz.results33 _ _ _ ⟨b2,0,none⟩ _ rfl LV) rfl ?_
 exact ⟨rfl,HE.out⟩
end
end Go.Proofs.YtokpmclmdobgeaaGreat.Fl
