/- SpaceMaps: pages that are mapped cost nothing until they are used;a page that was used and unmapped gives back just what it cost. No condition. -/
import Derived.Test.YthmobfelhpbllaaGreatDoorRows
import Derived.Test.YthmobfelhpbllaaGreatDoorCards
import Derived.Test.YthmobfelhpbllaaGreatDoorTie
import Derived.ProofKit
import Derived.OpenShut
import Derived.Stop.Joined
import Derived.SevenTiedAt
import Derived.Test.YthmobfelhpbllaaGreatDoorSXm
namespace Go.Proofs.YthmobfelhpbllaaGreatDoor.spaceMaps
open Go.ChangeShapes Go.WideShapes Go.ChangeAt Go.RowKit
set_option linter.unusedSimpArgs false
set_option linter.unusedVariables false
open Go.Proofs.YthmobfelhpbllaaGreatDoor.Tt Go.Proofs.YthmobfelhpbllaaGreatDoor.Sp
set_option maxRecDepth 8000
set_option maxHeartbeats 16000000 in
theorem walk (a0:Int) (w0:(Lit.int .i64 a0).wf=true) (a1:Int) (w1:(Lit.int .i64 a1).wf=true) (a2:Int) (w2:(Lit.int .i64 a2).wf=true) (a3:Bool) (w:World) (ht:Tab w)  :
 Calls Tryz.prog 4 #[.int .i64 a0,.int .i64 a1,.int .i64 a2,.bool a3] w fun e w'=>e=.returned (.bool true)/\Below w.heap.size w w':=by
 have AW:Hid (∀ W:World,Tab W->Calls Tryz.prog 7 #[] W fun e w'=>e=.returned (.bool true)/\Below W.heap.size W w'):=fun W t=>awake_any W t
 have HT:Hid (Tab w):=ht
 by_cases h1:a0<0
 . have d1:decide (a0<0)=true:=by simp;omega
   clear h1
   go_enter Tryz.func4,Tryz.ntmps4
   go_wp2_with fail
   refine Calls.mono (AW.out _ HT.out) ?_
   rintro e w1 ⟨rfl,hb1⟩
   have HB:Hid (Below w.heap.size w w1):=hb1
   clear hb1
   go_wp2_with fail
   go_returns
   exact ⟨rfl,HB.out⟩
 by_cases h2:34359738368<=a0
 . have d1:decide (a0<0)=false:=by simp;omega
   have d2:decide (34359738368<=a0)=true:=by simp;omega
   clear h1 h2
   go_enter Tryz.func4,Tryz.ntmps4
   go_wp2_with fail
   refine Calls.mono (AW.out _ HT.out) ?_
   rintro e w1 ⟨rfl,hb1⟩
   have HB:Hid (Below w.heap.size w w1):=hb1
   clear hb1
   go_wp2_with fail
   go_returns
   exact ⟨rfl,HB.out⟩
 by_cases h3:a1<1
 . have d1:decide (a0<0)=false:=by simp;omega
   have d2:decide (34359738368<=a0)=false:=by simp;omega
   have d3:decide (a1<1)=true:=by simp;omega
   clear h1 h2 h3
   go_enter Tryz.func4,Tryz.ntmps4
   go_wp2_with fail
   refine Calls.mono (AW.out _ HT.out) ?_
   rintro e w1 ⟨rfl,hb1⟩
   have HB:Hid (Below w.heap.size w w1):=hb1
   clear hb1
   go_wp2_with fail
   go_returns
   exact ⟨rfl,HB.out⟩
 by_cases h4:65536<a1
 . have d1:decide (a0<0)=false:=by simp;omega
   have d2:decide (34359738368<=a0)=false:=by simp;omega
   have d3:decide (a1<1)=false:=by simp;omega
   have d4:decide (65536<a1)=true:=by simp;omega
   clear h1 h2 h3 h4
   go_enter Tryz.func4,Tryz.ntmps4
   go_wp2_with fail
   refine Calls.mono (AW.out _ HT.out) ?_
   rintro e w1 ⟨rfl,hb1⟩
   have HB:Hid (Below w.heap.size w w1):=hb1
   clear hb1
   go_wp2_with fail
   go_returns
   exact ⟨rfl,HB.out⟩
 by_cases h5:34359738368<a0+a1
 . have d1:decide (a0<0)=false:=by simp;omega
   have d2:decide (34359738368<=a0)=false:=by simp;omega
   have d3:decide (a1<1)=false:=by simp;omega
   have d4:decide (65536<a1)=false:=by simp;omega
   have d5:decide (34359738368<a0+a1)=true:=by simp;omega
   have dw:IntKind.i64.wrap (a0+a1)=a0+a1:=by simp only [IntKind.wrap_i64];omega
   clear h1 h2 h3 h4 h5
   go_enter Tryz.func4,Tryz.ntmps4
   go_wp2_with fail
   refine Calls.mono (AW.out _ HT.out) ?_
   rintro e w1 ⟨rfl,hb1⟩
   have HB:Hid (Below w.heap.size w w1):=hb1
   clear hb1
   go_wp2_with fail
   go_returns
   exact ⟨rfl,HB.out⟩
 by_cases h6:a2<a0
 . have d1:decide (a0<0)=false:=by simp;omega
   have d2:decide (34359738368<=a0)=false:=by simp;omega
   have d3:decide (a1<1)=false:=by simp;omega
   have d4:decide (65536<a1)=false:=by simp;omega
   have d5:decide (34359738368<a0+a1)=false:=by simp;omega
   have d6:decide (a2<a0)=true:=by simp;omega
   have dw:IntKind.i64.wrap (a0+a1)=a0+a1:=by simp only [IntKind.wrap_i64];omega
   clear h1 h2 h3 h4 h5 h6
   go_enter Tryz.func4,Tryz.ntmps4
   go_wp2_with fail
   refine Calls.mono (AW.out _ HT.out) ?_
   rintro e w1 ⟨rfl,hb1⟩
   have HB:Hid (Below w.heap.size w w1):=hb1
   clear hb1
   go_wp2_with fail
   go_returns
   exact ⟨rfl,HB.out⟩
 by_cases h7:a0+a1<=a2
 . have d1:decide (a0<0)=false:=by simp;omega
   have d2:decide (34359738368<=a0)=false:=by simp;omega
   have d3:decide (a1<1)=false:=by simp;omega
   have d4:decide (65536<a1)=false:=by simp;omega
   have d5:decide (34359738368<a0+a1)=false:=by simp;omega
   have d6:decide (a2<a0)=false:=by simp;omega
   have d7:decide (a0+a1<=a2)=true:=by simp;omega
   have dw:IntKind.i64.wrap (a0+a1)=a0+a1:=by simp only [IntKind.wrap_i64];omega
   clear h1 h2 h3 h4 h5 h6 h7
   go_enter Tryz.func4,Tryz.ntmps4
   go_wp2_with fail
   refine Calls.mono (AW.out _ HT.out) ?_
   rintro e w1 ⟨rfl,hb1⟩
   have HB:Hid (Below w.heap.size w w1):=hb1
   clear hb1
   go_wp2_with fail
   go_returns
   exact ⟨rfl,HB.out⟩
 have d1:decide (a0<0)=false:=by simp;omega
 have d2:decide (34359738368<=a0)=false:=by simp;omega
 have d3:decide (a1<1)=false:=by simp;omega
 have d4:decide (65536<a1)=false:=by simp;omega
 have d5:decide (34359738368<a0+a1)=false:=by simp;omega
 have d6:decide (a2<a0)=false:=by simp;omega
 have d7:decide (a0+a1<=a2)=false:=by simp;omega
 obtain ⟨tt,htt⟩: ∃ tt,tt=a0+a1:=⟨_,rfl⟩
 have dw:IntKind.i64.wrap (a0+a1)=tt:=by rw [htt];simp only [IntKind.wrap_i64];omega
 rw [<- htt] at d5 d7
 obtain ⟨p,hp⟩: ∃ p:Nat,a2=p:=⟨a2.toNat,by omega⟩
 have HR:Hid (0<=a0/\a0<=a2/\a2<tt/\tt<=34359738368/\tt-a0<=65536/\a2=(p:Nat)/\p<34359738368):=⟨by omega,by omega,by omega,by omega,by omega,hp,by omega⟩
 have BC:Hid _:=begin_ok 30 3 (by omega) (by omega) (by omega) (by omega) w ht
 have FR:Hid (∀ (X:Nat->Prop) (W:World) (m:Pm) (s:Ps) (r u:Int) (f:Nat),Pu X W m s->Nums m s 0 r u f->Calls Tryz.prog 15 #[pp m.b] W fun e w'=>e=.returned (.int .i64 (f:Nat))/\w'=W):=fun X W m s r u f hp hN=>by
  have q:=hp.free
  rw [hN.free] at q;exact q
 clear ht h1 h2 h3 h4 h5 h6 h7 hp htt
 go_enter Tryz.func4,Tryz.ntmps4
 go_wp2_with fail
 refine Calls.mono BC.out ?_
 rintro e w1 ⟨M,m,s,xb,rfl,hB⟩
 have G1:Hid (Below w1.heap.size w1 (w1.alloc (.cells #[.slice none 0 0,.slice (some ⟨xb,0,none⟩) 1 1,.int .i64 0] 28))):=Go.Joins.below_alloc1 _ _
 have HB:Hid (Booted 30 3 w w1 M m s):=hB
 clear hB BC d1 d2 d3 d4 d5 d6 d7
 go_upto_region 4 with fail
 generalize (w1.alloc (.cells #[.slice none 0 0,.slice (some ⟨xb,0,none⟩) 1 1,.int .i64 0] 28))=w2 at G1 |-
 have OC:Hid (Calls Tryz.prog 14 #[pp M.mb,.int .i64 1,.int .i64 0] w2 fun e w'=>e=.returned (.int .i64 0)/\ ∃ (O:Nat->Nat) (s1:Ps) (root sb lb:Nat),Mc (fun j=>j<w.heap.size) O 1 w' M m s1 Tl.T0 (Pc.freshS 3) [sr0 1 0 sb 0 root lb]/\Nums m s1 0 26 3 26/\s1.q<=6000/\Kept (fun j=>j<w.heap.size) w w'):=by
  obtain ⟨O,hM,hN,a1,a2,a3,hb⟩:=HB.out
  have q:=open_ok (hM.below G1.out) 1 (by omega) (by omega) (by simp) 0 (by simp) 0 (hN.box (by simp)) (by omega) (by rw [hN.room];omega) (by omega)
  refine Calls.mono q ?_
  rintro e w' ⟨he,O',root,sb,lb,M2,fr,h1,h2⟩
  have nn:=hN.take hM.pu.so (L:=[root]) ⟨by simp,fun x hx=>by simp at hx;rw [hx];exact fr⟩ M2 (s.q+2)
  refine ⟨he,O',_,root,sb,lb,h1,?_,by show s.q+2<=6000;omega,?_⟩
  . exact nn
  . exact Kept.trans (kept_of_below hb (fun j hj=>hj)) (Kept.trans (kept_of_below G1.out (fun j hj=>Nat.lt_of_lt_of_le hj hb.size)) h2)
 clear HB G1
 go_wp2_with fail
 refine Calls.mono OC.out ?_
 rintro e w3 ⟨rfl,O3,s3,root,sb,lb,hM3,hN3,hq3,hK3⟩
 have M3:Hid (Mc (fun j=>j<w.heap.size) O3 1 w3 M m s3 Tl.T0 (Pc.freshS 3) [sr0 1 0 sb 0 root lb]/\Nums m s3 0 26 3 26/\s3.q<=6000/\Kept (fun j=>j<w.heap.size) w w3):=⟨hM3,hN3,hq3,hK3⟩
 clear hM3 hN3 hq3 hK3 OC
 have c1:w3.cell? ⟨M.mb,1,none⟩=some (pp m.b):=M3.out.1.mac.cell 1
 go_wp2_with fail
 refine Calls.mono (FR.out _ _ _ _ _ _ _ M3.out.1.pu M3.out.2.1) ?_
 rintro e w3' ⟨rfl,hu⟩
 have hu2:=hu.symm
 subst hu2
 clear hu c1
 have s41:(w3.alloc (.cells #[.int .i64 a0,.int .i64 tt] 56)).heap.size=w3.heap.size+1:=World.size_alloc _ _
 have G4:Hid (Below w3.heap.size w3 ((w3.alloc (.cells #[.int .i64 a0,.int .i64 tt] 56)).alloc (.cells #[.bool true,.bool true,.bool false] 49))/\Blk ((w3.alloc (.cells #[.int .i64 a0,.int .i64 tt] 56)).alloc (.cells #[.bool true,.bool true,.bool false] 49)) w3.heap.size [.int .i64 a0,.int .i64 tt] 56/\Blk ((w3.alloc (.cells #[.int .i64 a0,.int .i64 tt] 56)).alloc (.cells #[.bool true,.bool true,.bool false] 49)) (w3.heap.size+1) [.bool true,.bool true,.bool false] 49/\w3.heap.size<((w3.alloc (.cells #[.int .i64 a0,.int .i64 tt] 56)).alloc (.cells #[.bool true,.bool true,.bool false] 49)).heap.size):=⟨Go.Joins.below_alloc2 _ _ _,(Blk.made _ _ _).below (Go.Joins.below_alloc1 _ _),by rw [<- s41];exact Blk.made _ _ _,by rw [World.size_alloc,s41];omega⟩
 clear s41
 go_upto_region 9 with fail
 generalize ((w3.alloc (.cells #[.int .i64 a0,.int .i64 tt] 56)).alloc (.cells #[.bool true,.bool true,.bool false] 49))=w4 at G4 |-
 obtain ⟨rb,hrb⟩: ∃ rb,rb=w3.heap.size:=⟨_,rfl⟩
 obtain ⟨pb,hpb⟩: ∃ pb,pb=w3.heap.size+1:=⟨_,rfl⟩
 have B4:Hid (Blk w4 rb [.int .i64 a0,.int .i64 tt] 56/\Blk w4 pb [.bool true,.bool true,.bool false] 49/\rb=w3.heap.size/\rb<w4.heap.size):=by rw [hrb,hpb];exact ⟨G4.out.2.1,G4.out.2.2.1,rfl,G4.out.2.2.2⟩
 rw [<- hpb,<- hrb]
 clear hrb hpb
 have x0:w4.cell? ⟨rb,0,none⟩=some (.int .i64 a0):=B4.out.1.cell 0
 have x1:w4.cell? ⟨rb,1,none⟩=some (.int .i64 tt):=B4.out.1.cell 1
 have y0:w4.cell? ⟨pb,0,none⟩=some (.bool true):=B4.out.2.1.cell 0
 have y1:w4.cell? ⟨pb,1,none⟩=some (.bool true):=B4.out.2.1.cell 1
 have y2:w4.cell? ⟨pb,2,none⟩=some (.bool false):=B4.out.2.1.cell 2
 have MC:Hid (Calls Tryz.prog 16 #[pp M.mb,.int .i64 1,.agg #[.int .i64 a0,.int .i64 tt],.agg #[.bool true,.bool true,.bool false]] w4 fun e w'=>e=.returned (.int .i64 0)/\ ∃ O p5 c5,Mc (fun j=>j<w.heap.size\/(w3.heap.size<=j/\j<w4.heap.size)) O 1 w' M m s3 Tl.T0 (Pc.freshS 3) [{ sr0 1 0 sb 0 root lb with rp:=p5,rc:=c5,L:=[⟨a0,tt,true,true,false,0⟩] }]/\Kx (fun j=>j<w.heap.size\/(w3.heap.size<=j/\j<w4.heap.size)) w4 w'):=by
  have hr:=HR.out
  obtain ⟨e1,e2⟩:=add_first a0 tt true true false (by omega) (by omega) (by omega) (by omega)
  have q:=map_ok (M3.out.1.grow G4.out.1) a0 tt true true false [⟨a0,tt,true,true,false,0⟩] e1 e2 (by simp) one_wf
  exact q
 go_wp2_with fail
 refine Calls.mono MC.out ?_
 rintro e w5 ⟨rfl,O5,p5,c5,hM5,hK5⟩
 have M5:Hid (Mc (fun j=>j<w.heap.size\/(w3.heap.size<=j/\j<w4.heap.size)) O5 1 w5 M m s3 Tl.T0 (Pc.freshS 3) [{ sr0 1 0 sb 0 root lb with rp:=p5,rc:=c5,L:=[⟨a0,tt,true,true,false,0⟩] }]/\Kept (fun j=>j<w.heap.size) w w5/\Blk w5 rb [.int .i64 a0,.int .i64 tt] 56):=⟨hM5,Kept.trans M3.out.2.2.2 (Kept.trans (kept_of_below G4.out.1 (fun j hj=>Nat.lt_of_lt_of_le hj M3.out.2.2.2.size)) (hK5.sub (fun j hj=>Or.inl hj))),B4.out.1.kx hK5 (Or.inr ⟨by rw [B4.out.2.2.1];exact Nat.le_refl _,B4.out.2.2.2⟩)⟩
 have RY:Hid (w3.heap.size<=rb/\rb<w4.heap.size):=⟨by rw [B4.out.2.2.1];exact Nat.le_refl _,B4.out.2.2.2⟩
 have NN:Hid (Nums m s3 0 26 3 26/\s3.q<=6000/\Rt m s3 root (tab1 root) (fun _=>none)):=⟨M3.out.2.1,M3.out.2.2.1,M3.out.1.rt _ (List.mem_cons_self ..)⟩
 clear hM5 hK5 MC x0 x1 y0 y1 y2 M3 G4 B4
 have c1:w5.cell? ⟨M.mb,1,none⟩=some (pp m.b):=M5.out.1.mac.cell 1
 go_wp2_with fail
 refine Calls.mono (FR.out _ _ _ _ _ _ _ M5.out.1.pu NN.out.1) ?_
 rintro e w5' ⟨rfl,hu⟩
 have hu2:=hu.symm
 subst hu2
 clear hu c1
 have PC:Hid (Calls Tryz.prog 17 #[pp M.mb,.int .i64 1] w5 fun e w'=> ∃ pf cf,e=.returned (.slice pf 0 cf)/\Below w5.heap.size w5 w'):=by
  have q:=pages_none M5.out.1 rfl one_wf
  exact q
 go_wp2_with fail
 refine Calls.mono PC.out ?_
 rintro e w6 ⟨pf,cf,rfl,hb6⟩
 have M6:Hid (Mc (fun j=>j<w.heap.size\/(w3.heap.size<=j/\j<w4.heap.size)) O5 1 w6 M m s3 Tl.T0 (Pc.freshS 3) [{ sr0 1 0 sb 0 root lb with rp:=p5,rc:=c5,L:=[⟨a0,tt,true,true,false,0⟩] }]/\Kept (fun j=>j<w.heap.size) w w6/\Blk w6 rb [.int .i64 a0,.int .i64 tt] 56):=⟨M5.out.1.below hb6,M5.out.2.1.trans (kept_of_below hb6 (fun j hj=>Nat.lt_of_lt_of_le hj M5.out.2.1.size)),M5.out.2.2.below hb6⟩
 clear hb6 PC M5
 have TC:Hid (Calls Tryz.prog 18 #[pp M.mb,.int .i64 1,.int .i64 a2,.agg #[.bool true,.bool true,.bool false]] w6 fun e w'=> ∃ f:Nat,e=.returned (.tuple #[.int .i64 f,.int .i64 0,.int .i64 0])/\Supplied (fun j=>j<w.heap.size\/(w3.heap.size<=j/\j<w4.heap.size)) O5 1 w6 w' M m s3 Tl.T0 (Pc.freshS 3) { sr0 1 0 sb 0 root lb with rp:=p5,rc:=c5,L:=[⟨a0,tt,true,true,false,0⟩] } [] p f true true false 26 3 26):=by
  have hr:=HR.out
  have q:=touch_new M6.out.1 p hr.2.2.2.2.2.2 true true false a0 tt 0 true true false one_wf rfl (by show Re.findR [⟨a0,tt,true,true,false,0⟩] p=_;unfold Re.findR;rw [if_pos (by show a0<=(p:Int)/\(p:Int)<tt;omega)]) rfl NN.out.1 (by show 1+(fresh (pgs (fun _=>none)) p:Int)<=26;rw [fresh_none];omega) (by omega) (by have:=NN.out.2.1;omega) (by show 0<1000000;omega)
  rw [hr.2.2.2.2.2.1]
  exact q
 go_wp2_with fail
 refine Calls.mono TC.out ?_
 rintro e w7 ⟨f,rfl,s7,tab7,hM7,hN7,hq7,hf7,hK7⟩
 have M7:Hid (Mc (fun j=>j<w.heap.size\/(w3.heap.size<=j/\j<w4.heap.size)) O5 1 w7 M m s7 Tl.T0 (Pc.freshS 3) [{ sr0 1 0 sb 0 root lb with tab:=tab7,lf:=lfSet (fun _=>none) p (some ⟨(f:Nat),true,true,false⟩),rp:=p5,rc:=c5,L:=[⟨a0,tt,true,true,false,0⟩],ln:=1,lt:=Pc.setF Pc.noneF p (some 0) }]/\Kept (fun j=>j<w.heap.size) w w7/\Blk w7 rb [.int .i64 a0,.int .i64 tt] 56):=⟨hM7,M6.out.2.1.trans (hK7.sub (fun j hj=>Or.inl hj)),M6.out.2.2.kx hK7 (Or.inr RY.out)⟩
 have N7:Hid (Nums m s7 0 22 7 22/\s7.q<=6010/\m.has f=true):=by
  have e:fresh (pgs (fun _=>none)) p=3:=fresh_none p
  have q:Nums m s7 0 (26-1-(fresh (pgs (fun _=>none)) p:Int)) (3+1+(fresh (pgs (fun _=>none)) p:Int)) (26-1-fresh (pgs (fun _=>none)) p):=hN7
  rw [e] at q
  exact ⟨q,by have:=NN.out.2.1;omega,hf7⟩
 have TN:Hid (tabsN (pgs (lfSet (fun _=>none) p (some ⟨(f:Nat),true,true,false⟩)))=4/\lfSet (lfSet (fun _=>none) p (some ⟨(f:Nat),true,true,false⟩)) p none=(fun _=>none)/\tabsN (pgs (fun _=>none))=1):=by
  have e0:lfSet (lfSet (fun _=>none) p (some ⟨(f:Nat),true,true,false⟩)) p none=(fun _=>none):=by
   funext x
   by_cases c:x=p
   . rw [c];exact lf_same ..
   . rw [lf_other c,lf_other c]
  have e1:tabsN (pgs (fun _=>none))=1:=by rw [pgs_none];rfl
  have r7:Rt m s7 root tab7 (lfSet (fun _=>none) p (some ⟨(f:Nat),true,true,false⟩)):=M7.out.1.rt _ (List.mem_cons_self ..)
  have q:=tabs_perm (pgs_less r7.pw (lf_same ..) (by rw [e0];exact NN.out.2.2.pw))
  rw [e0,pgs_none] at q
  exact ⟨q,e0,e1⟩
 clear hM7 hN7 hq7 hf7 hK7 TC M6 NN
 have c1:w7.cell? ⟨M.mb,1,none⟩=some (pp m.b):=M7.out.1.mac.cell 1
 go_wp2_with fail
 refine Calls.mono (FR.out _ _ _ _ _ _ _ M7.out.1.pu N7.out.1) ?_
 rintro e w7' ⟨rfl,hu⟩
 have hu2:=hu.symm
 subst hu2
 clear hu c1
 have c0:w7.cell? ⟨M.mb,0,none⟩=some (pp m.rb):=M7.out.1.mac.cell 0
 have HC:Hid (Calls Tryz.prog 19 #[pp m.rb,.int .i64 f] w7 fun e w'=>e=.returned (.bool true)/\Below w7.heap.size w7 w'):=(M7.out.1.pu.hasc f).mono fun e w' ⟨he,hg⟩=>⟨by rw [he,N7.out.2.2],⟨hg.os,hg.tape,hg.output,hg.size,fun k hk=>hg.block k hk (by simp)⟩⟩
 go_wp2_with fail
 refine Calls.mono HC.out ?_
 rintro e w8 ⟨rfl,hb8⟩
 have M8:Hid (Mc (fun j=>j<w.heap.size\/(w3.heap.size<=j/\j<w4.heap.size)) O5 1 w8 M m s7 Tl.T0 (Pc.freshS 3) [{ sr0 1 0 sb 0 root lb with tab:=tab7,lf:=lfSet (fun _=>none) p (some ⟨(f:Nat),true,true,false⟩),rp:=p5,rc:=c5,L:=[⟨a0,tt,true,true,false,0⟩],ln:=1,lt:=Pc.setF Pc.noneF p (some 0) }]/\Kept (fun j=>j<w.heap.size) w w8/\Blk w8 rb [.int .i64 a0,.int .i64 tt] 56):=⟨M7.out.1.below hb8,M7.out.2.1.trans (kept_of_below hb8 (fun j hj=>Nat.lt_of_lt_of_le hj M7.out.2.1.size)),M7.out.2.2.below hb8⟩
 clear hb8 HC M7 c0
 cases a3
 . go_wp2_with fail
   refine Calls.mono (AW.out _ M8.out.1.pu.tab) ?_
   rintro e w10 ⟨rfl,hb10⟩
   have M10:Hid (Mc (fun j=>j<w.heap.size\/(w3.heap.size<=j/\j<w4.heap.size)) O5 1 w10 M m s7 Tl.T0 (Pc.freshS 3) [{ sr0 1 0 sb 0 root lb with tab:=tab7,lf:=lfSet (fun _=>none) p (some ⟨(f:Nat),true,true,false⟩),rp:=p5,rc:=c5,L:=[⟨a0,tt,true,true,false,0⟩],ln:=1,lt:=Pc.setF Pc.noneF p (some 0) }]/\Kept (fun j=>j<w.heap.size) w w10/\Blk w10 rb [.int .i64 a0,.int .i64 tt] 56):=⟨M8.out.1.below hb10,M8.out.2.1.trans (kept_of_below hb10 (fun j hj=>Nat.lt_of_lt_of_le hj M8.out.2.1.size)),M8.out.2.2.below hb10⟩
   clear hb10 M8
   have x0:w10.cell? ⟨rb,0,none⟩=some (.int .i64 a0):=M10.out.2.2.cell 0
   have x1:w10.cell? ⟨rb,1,none⟩=some (.int .i64 tt):=M10.out.2.2.cell 1
   have UC:Hid (Calls Tryz.prog 20 #[pp M.mb,.int .i64 1,.agg #[.int .i64 a0,.int .i64 tt]] w10 fun e w'=>e=.returned (.int .i64 0)/\ ∃ (O':Nat->Nat) (s':Ps) (tab':Nat->Nat->Option Nat) (p':Option Addr) (c':Nat),Mc (fun j=>j<w.heap.size\/(w3.heap.size<=j/\j<w4.heap.size)) O' 1 w' M m s' Tl.T0 (Pc.freshS 3) [{ sr0 1 0 sb 0 root lb with tab:=tab',lf:=lfSet (lfSet (fun _=>none) p (some ⟨(f:Nat),true,true,false⟩)) p none,rp:=p',rc:=c',L:=[],ln:=1,lt:=Pc.setF (Pc.setF Pc.noneF p (some 0)) p none }]/\(∀ x,p'=some x-> ∃ g,x=⟨g,0,none⟩)/\Nums m s' 0 26 3 26/\Kx (fun j=>j<w.heap.size\/(w3.heap.size<=j/\j<w4.heap.size)) w10 w'):=by
    have hr:=HR.out
    have tn:=TN.out
    have q:=unmap_all M10.out.1 a0 tt true true false p hr.1 (by omega) (by omega) hr.2.2.2.1 hr.2.2.2.2.1 rfl rfl (v:=⟨(f:Nat),true,true,false⟩) (by show lfSet (fun _=>none) p (some ⟨(f:Nat),true,true,false⟩) p=_;exact lf_same ..) (fun x=>by show lfSet (lfSet (fun _=>none) p (some ⟨(f:Nat),true,true,false⟩)) p none x=none;rw [tn.2.1]) N7.out.1 (by show 1+(tabsN (pgs (lfSet (fun _=>none) p (some ⟨(f:Nat),true,true,false⟩))):Int)<=7;rw [tn.1];omega) (by show tabsN (pgs (lfSet (lfSet (fun _=>none) p (some ⟨(f:Nat),true,true,false⟩)) p none))<=tabsN (pgs (lfSet (fun _=>none) p (some ⟨(f:Nat),true,true,false⟩)));rw [tn.1,tn.2.1,tn.2.2];omega) (by have:=N7.out.2.1;omega) one_wf rfl
    refine Calls.mono q ?_
    rintro e w' ⟨he,O',s',tab',p',c',k1,k2,k3,k4⟩
    refine ⟨he,O',s',tab',p',c',k1,k2,?_,k4⟩
    have k5:Nums m s' 0 (22+1+(tabsN (pgs (lfSet (fun _=>none) p (some ⟨(f:Nat),true,true,false⟩))):Int)-tabsN (pgs (lfSet (lfSet (fun _=>none) p (some ⟨(f:Nat),true,true,false⟩)) p none))) (7-1-(tabsN (pgs (lfSet (fun _=>none) p (some ⟨(f:Nat),true,true,false⟩))):Int)+tabsN (pgs (lfSet (lfSet (fun _=>none) p (some ⟨(f:Nat),true,true,false⟩)) p none))) (22+1+tabsN (pgs (lfSet (fun _=>none) p (some ⟨(f:Nat),true,true,false⟩)))-tabsN (pgs (lfSet (lfSet (fun _=>none) p (some ⟨(f:Nat),true,true,false⟩)) p none))):=k3
    rw [tn.1,tn.2.1,tn.2.2] at k5
    exact k5
   go_wp2_with fail
   refine Calls.mono UC.out ?_
   rintro e w11 ⟨rfl,O',s',tab',p',c',hM11,hr11,hN11,hK11⟩
   have M11:Hid (Mc (fun j=>j<w.heap.size\/(w3.heap.size<=j/\j<w4.heap.size)) O' 1 w11 M m s' Tl.T0 (Pc.freshS 3) [{ sr0 1 0 sb 0 root lb with tab:=tab',lf:=lfSet (lfSet (fun _=>none) p (some ⟨(f:Nat),true,true,false⟩)) p none,rp:=p',rc:=c',L:=[],ln:=1,lt:=Pc.setF (Pc.setF Pc.noneF p (some 0)) p none }]/\(∀ x,p'=some x-> ∃ g,x=⟨g,0,none⟩)/\Nums m s' 0 26 3 26/\Kept (fun j=>j<w.heap.size) w w11):=⟨hM11,hr11,hN11,M10.out.2.1.trans (hK11.sub (fun j hj=>Or.inl hj))⟩
   clear hM11 hr11 hN11 hK11 UC M10 x0 x1
   have c1:w11.cell? ⟨M.mb,1,none⟩=some (pp m.b):=M11.out.1.mac.cell 1
   go_wp2_with fail
   refine Calls.mono (FR.out _ _ _ _ _ _ _ M11.out.1.pu M11.out.2.2.1) ?_
   rintro e w11' ⟨rfl,hu⟩
   have hu2:=hu.symm
   subst hu2
   clear hu c1
   have RC:Hid (Calls Tryz.prog 21 #[pp M.mb,.int .i64 1] w11 fun e w'=> ∃ pf cf,e=.returned (.slice pf 0 cf)/\Below w.heap.size w w'):=by
    have q:=regions_none M11.out.1 rfl M11.out.2.1 one_wf
    refine Calls.mono q ?_
    rintro e w' ⟨pf,cf,he,hb⟩
    exact ⟨pf,cf,he,below_then (below_of_kept M11.out.2.2.2) hb⟩
   clear M11
   go_wp2_with fail
   refine Calls.mono RC.out ?_
   rintro e w12 ⟨pf2,cf2,rfl,hb12⟩
   have HB:Hid (Below w.heap.size w w12):=hb12
   clear hb12 RC
   go_wp2_with fail
   go_returns
   exact ⟨rfl,HB.out⟩
 . have TC:Hid (Calls Tryz.prog 18 #[pp M.mb,.int .i64 1,.int .i64 a2,.agg #[.bool false,.bool true,.bool false]] w8 fun e w'=>e=.returned (.tuple #[.int .i64 f,.int .i64 0,.int .i64 0])/\Below w8.heap.size w8 w'):=by
    have hr:=HR.out
    have q:=touch_there M8.out.1 p false true false a0 tt 0 f true true false true true false one_wf (by show lq (lfSet (fun _=>none) p (some ⟨(f:Nat),true,true,false⟩) p)=_;rw [lf_same];rfl) (by show Re.findR [⟨a0,tt,true,true,false,0⟩] p=_;unfold Re.findR;rw [if_pos (by show a0<=(p:Int)/\(p:Int)<tt;omega)]) rfl
    rw [hr.2.2.2.2.2.1]
    exact q
   go_wp2_with fail
   refine Calls.mono TC.out ?_
   rintro e w9 ⟨rfl,hb9⟩
   have M9:Hid (Mc (fun j=>j<w.heap.size\/(w3.heap.size<=j/\j<w4.heap.size)) O5 1 w9 M m s7 Tl.T0 (Pc.freshS 3) [{ sr0 1 0 sb 0 root lb with tab:=tab7,lf:=lfSet (fun _=>none) p (some ⟨(f:Nat),true,true,false⟩),rp:=p5,rc:=c5,L:=[⟨a0,tt,true,true,false,0⟩],ln:=1,lt:=Pc.setF Pc.noneF p (some 0) }]/\Kept (fun j=>j<w.heap.size) w w9/\Blk w9 rb [.int .i64 a0,.int .i64 tt] 56):=⟨M8.out.1.below hb9,M8.out.2.1.trans (kept_of_below hb9 (fun j hj=>Nat.lt_of_lt_of_le hj M8.out.2.1.size)),M8.out.2.2.below hb9⟩
   clear hb9 TC M8
   have c1:w9.cell? ⟨M.mb,1,none⟩=some (pp m.b):=M9.out.1.mac.cell 1
   go_wp2_with fail
   refine Calls.mono (FR.out _ _ _ _ _ _ _ M9.out.1.pu N7.out.1) ?_
   rintro e w9' ⟨rfl,hu⟩
   have hu2:=hu.symm
   subst hu2
   clear hu c1
   go_wp2_with fail
   refine Calls.mono (AW.out _ M9.out.1.pu.tab) ?_
   rintro e w10 ⟨rfl,hb10⟩
   have M10:Hid (Mc (fun j=>j<w.heap.size\/(w3.heap.size<=j/\j<w4.heap.size)) O5 1 w10 M m s7 Tl.T0 (Pc.freshS 3) [{ sr0 1 0 sb 0 root lb with tab:=tab7,lf:=lfSet (fun _=>none) p (some ⟨(f:Nat),true,true,false⟩),rp:=p5,rc:=c5,L:=[⟨a0,tt,true,true,false,0⟩],ln:=1,lt:=Pc.setF Pc.noneF p (some 0) }]/\Kept (fun j=>j<w.heap.size) w w10/\Blk w10 rb [.int .i64 a0,.int .i64 tt] 56):=⟨M9.out.1.below hb10,M9.out.2.1.trans (kept_of_below hb10 (fun j hj=>Nat.lt_of_lt_of_le hj M9.out.2.1.size)),M9.out.2.2.below hb10⟩
   clear hb10 M9
   have x0:w10.cell? ⟨rb,0,none⟩=some (.int .i64 a0):=M10.out.2.2.cell 0
   have x1:w10.cell? ⟨rb,1,none⟩=some (.int .i64 tt):=M10.out.2.2.cell 1
   have UC:Hid (Calls Tryz.prog 20 #[pp M.mb,.int .i64 1,.agg #[.int .i64 a0,.int .i64 tt]] w10 fun e w'=>e=.returned (.int .i64 0)/\ ∃ (O':Nat->Nat) (s':Ps) (tab':Nat->Nat->Option Nat) (p':Option Addr) (c':Nat),Mc (fun j=>j<w.heap.size\/(w3.heap.size<=j/\j<w4.heap.size)) O' 1 w' M m s' Tl.T0 (Pc.freshS 3) [{ sr0 1 0 sb 0 root lb with tab:=tab',lf:=lfSet (lfSet (fun _=>none) p (some ⟨(f:Nat),true,true,false⟩)) p none,rp:=p',rc:=c',L:=[],ln:=1,lt:=Pc.setF (Pc.setF Pc.noneF p (some 0)) p none }]/\(∀ x,p'=some x-> ∃ g,x=⟨g,0,none⟩)/\Nums m s' 0 26 3 26/\Kx (fun j=>j<w.heap.size\/(w3.heap.size<=j/\j<w4.heap.size)) w10 w'):=by
    have hr:=HR.out
    have tn:=TN.out
    have q:=unmap_all M10.out.1 a0 tt true true false p hr.1 (by omega) (by omega) hr.2.2.2.1 hr.2.2.2.2.1 rfl rfl (v:=⟨(f:Nat),true,true,false⟩) (by show lfSet (fun _=>none) p (some ⟨(f:Nat),true,true,false⟩) p=_;exact lf_same ..) (fun x=>by show lfSet (lfSet (fun _=>none) p (some ⟨(f:Nat),true,true,false⟩)) p none x=none;rw [tn.2.1]) N7.out.1 (by show 1+(tabsN (pgs (lfSet (fun _=>none) p (some ⟨(f:Nat),true,true,false⟩))):Int)<=7;rw [tn.1];omega) (by show tabsN (pgs (lfSet (lfSet (fun _=>none) p (some ⟨(f:Nat),true,true,false⟩)) p none))<=tabsN (pgs (lfSet (fun _=>none) p (some ⟨(f:Nat),true,true,false⟩)));rw [tn.1,tn.2.1,tn.2.2];omega) (by have:=N7.out.2.1;omega) one_wf rfl
    refine Calls.mono q ?_
    rintro e w' ⟨he,O',s',tab',p',c',k1,k2,k3,k4⟩
    refine ⟨he,O',s',tab',p',c',k1,k2,?_,k4⟩
    have k5:Nums m s' 0 (22+1+(tabsN (pgs (lfSet (fun _=>none) p (some ⟨(f:Nat),true,true,false⟩))):Int)-tabsN (pgs (lfSet (lfSet (fun _=>none) p (some ⟨(f:Nat),true,true,false⟩)) p none))) (7-1-(tabsN (pgs (lfSet (fun _=>none) p (some ⟨(f:Nat),true,true,false⟩))):Int)+tabsN (pgs (lfSet (lfSet (fun _=>none) p (some ⟨(f:Nat),true,true,false⟩)) p none))) (22+1+tabsN (pgs (lfSet (fun _=>none) p (some ⟨(f:Nat),true,true,false⟩)))-tabsN (pgs (lfSet (lfSet (fun _=>none) p (some ⟨(f:Nat),true,true,false⟩)) p none))):=k3
    rw [tn.1,tn.2.1,tn.2.2] at k5
    exact k5
   go_wp2_with fail
   refine Calls.mono UC.out ?_
   rintro e w11 ⟨rfl,O',s',tab',p',c',hM11,hr11,hN11,hK11⟩
   have M11:Hid (Mc (fun j=>j<w.heap.size\/(w3.heap.size<=j/\j<w4.heap.size)) O' 1 w11 M m s' Tl.T0 (Pc.freshS 3) [{ sr0 1 0 sb 0 root lb with tab:=tab',lf:=lfSet (lfSet (fun _=>none) p (some ⟨(f:Nat),true,true,false⟩)) p none,rp:=p',rc:=c',L:=[],ln:=1,lt:=Pc.setF (Pc.setF Pc.noneF p (some 0)) p none }]/\(∀ x,p'=some x-> ∃ g,x=⟨g,0,none⟩)/\Nums m s' 0 26 3 26/\Kept (fun j=>j<w.heap.size) w w11):=⟨hM11,hr11,hN11,M10.out.2.1.trans (hK11.sub (fun j hj=>Or.inl hj))⟩
   clear hM11 hr11 hN11 hK11 UC M10 x0 x1
   have c1:w11.cell? ⟨M.mb,1,none⟩=some (pp m.b):=M11.out.1.mac.cell 1
   go_wp2_with fail
   refine Calls.mono (FR.out _ _ _ _ _ _ _ M11.out.1.pu M11.out.2.2.1) ?_
   rintro e w11' ⟨rfl,hu⟩
   have hu2:=hu.symm
   subst hu2
   clear hu c1
   have RC:Hid (Calls Tryz.prog 21 #[pp M.mb,.int .i64 1] w11 fun e w'=> ∃ pf cf,e=.returned (.slice pf 0 cf)/\Below w.heap.size w w'):=by
    have q:=regions_none M11.out.1 rfl M11.out.2.1 one_wf
    refine Calls.mono q ?_
    rintro e w' ⟨pf,cf,he,hb⟩
    exact ⟨pf,cf,he,below_then (below_of_kept M11.out.2.2.2) hb⟩
   clear M11
   go_wp2_with fail
   refine Calls.mono RC.out ?_
   rintro e w12 ⟨pf2,cf2,rfl,hb12⟩
   have HB:Hid (Below w.heap.size w w12):=hb12
   clear hb12 RC
   go_wp2_with fail
   go_returns
   exact ⟨rfl,HB.out⟩
set_option maxRecDepth 100000 in
theorem lifted (os:Os) (started:os.Started) (H:Type) (enc:TypeId × Value->H) :
 ReturnsInHanded {} Tryz.checked os 4 .any (fun w args=>(Rows.spaceMapsSpec.pre enc Tryz.prog Tryz.f4 [] false w args/\laidMetH Tryz.prog laidL w)/\sizedMet enc Tryz.prog Tryz.f4 (OpenSpec.ofChange Rows.spaceMapsSpec) false w args)
  (Rows.spaceMapsSpec.post enc Tryz.prog Tryz.f4 false true false false):=by
 refine returnsInHanded_of_change_and (C:=Tryz.checked) (X:=fun w _=>laidMetH Tryz.prog laidL w) (fun _ _ _ hh h=>h.of_heap hh) own started (by kernel_rfl) Tryz.func4
  (ChangeSpec.witness_shaped (enc:=enc) (C:=Tryz.checked) (os:=os) (X:=fun w _=>laidMetH Tryz.prog laidL w) false (World.doorLaid Tryz.prog 400 os) #[.int .i64 0,.int .i64 0,.int .i64 0,.bool false] 8 rfl (World.shaped_of_RefB (by kernel_rfl) (by kernel_rfl)) (by kernel_rfl) (by kernel_rfl) (by kernel_rfl) (door_met os _)) ?_
 intro W base args ds gs before hval0 hW _ _ hL _
 have hval: ∀ (j:Nat) t v,Tryz.f4.params[j]? =some t->args[j]? =some v->Value.okWide Tryz.prog W .any base t v:=hval0
 have hW':=hW
 obtain ⟨p,q,hA0,hV,hbef,hfz,hnd⟩:=hW
 have hA:DataW.TrodAll enc Tryz.prog W 0 (fun _=>true) true Tryz.f4.params.toList args.toList ds p:=hA0
 have hAk:=hA
 have hlt: ∀ x∈p,x.block<W.heap.size:=fun x hx=>hW'.lt x (by rw [hbef];exact List.mem_append_left _ hx)
 rw [Tryz.params4] at hA hval
 obtain ⟨v0,vs0,d0,ds0,p0,q0,hargs,rfl,hp0,h0,r0⟩:=trodAll_cons hA
 obtain ⟨v1,vs1,d1,ds1,p1,q1,rfl,rfl,hp1,h1,r1⟩:=trodAll_cons r0
 obtain ⟨v2,vs2,d2,ds2,p2,q2,rfl,rfl,hp2,h2,r2⟩:=trodAll_cons r1
 obtain ⟨v3,vs3,d3,ds3,p3,q3,rfl,rfl,hp3,h3,r3⟩:=trodAll_cons r2
 obtain ⟨rfl,rfl,hpz⟩:=trodAll_nil r3
 obtain rfl:args= #[v0,v1,v2,v3]:=by cases args;simp_all
 obtain ⟨rfl,rfl⟩:=trodVars_none hV
 obtain ⟨a0,rfl,_,_,w0⟩:=open_int Tryz.underlying3 (hval 0 3 v0 rfl rfl) h0
 obtain ⟨a1,rfl,_,_,w1⟩:=open_int Tryz.underlying3 (hval 1 3 v1 rfl rfl) h1
 obtain ⟨a2,rfl,_,_,w2⟩:=open_int Tryz.underlying3 (hval 2 3 v2 rfl rfl) h2
 obtain ⟨a3,rfl,_,_⟩:=Go.RowKit.open_bool Tryz.underlying4 (hval 3 4 v3 rfl rfl) h3
 clear hA0 hval0
 refine (walk a0 w0 a1 w1 a2 w2 a3 W (of_laid hL) ).mono fun e W' ⟨he,hg⟩=> ?_
 subst he
 exact ⟨_,rfl,⟨_,_,_,[],p,[],hW',(trodAll_cons_mk (shut_bool Tryz.underlying4 _) trodAll_mk0),args_stay laidOut hg (by kernel_rfl) hAk hlt,rfl,hg.frame _,fun h=>by cases h⟩⟩
theorem over:Rows.spaceMapsRow.holds Tryz.pinned (OpenSpec.ofChange Rows.spaceMapsSpec) :=
 OpenClaim.holds_of_wide 4 Tryz.f4 rfl rfl rfl rfl rfl rfl rfl ⟨rfl,rfl,rfl,rfl,rfl⟩ rfl rfl rfl rfl rfl (by kernel_rfl) Tryz.func4 (by kernel_rfl)
  (of_decide_eq_true (by kernel_rfl)) (by unfold Func.isWrapper;first | (rw [if_pos (by decide +kernel)];kernel_rfl) | (rw [if_neg (by decide +kernel)];exact ⟨rfl,rfl⟩))
  (fun os started H enc _=>lifted os started H enc)
theorem proved:Rows.SpaceMapsCardSaid :=
 Claim7.holds_tied_plain_at .later [] [.data] true (true, "221282a1b92435b0fa0ff5763a43b8c3d1f8dd54f5d6e60e9b564bbf2eec004e") true
  over (fun _ h=>by cases h) (by kernel_rfl) (fun _ h=>by cases h) spaceMaps_row_tie rfl ⟨rfl,rfl⟩ (by kernel_rfl) rfl
  (fun f fn hf hfn=>by
   obtain rfl : f = 4 := Option.some.inj ((show Tryz.prog.funcNamed "demesne/demesnelaw12.SpaceMaps" = some 4 by kernel_rfl).symm.trans hf) |>.symm
   obtain rfl:fn=Tryz.f4:=(Option.some.inj (Tryz.func4.symm.trans hfn)).symm
   exact ⟨by kernel_rfl,fun j t ht=>by
    rw [Tryz.params4] at ht
    have hm:t∈[3,3,3,4]:=by simpa using Array.mem_of_getElem? ht
    have hall:([3,3,3,4].all fun u=> !Tryz.prog.wantsStandIn u)=true:=by kernel_rfl
    exact (show Tryz.prog.wantsStandIn t=false by simpa using List.all_eq_true.1 hall t hm)⟩)
  (by kernel_rfl)
#print axioms proved
end Go.Proofs.YthmobfelhpbllaaGreatDoor.spaceMaps
