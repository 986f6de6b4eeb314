import Derived.Test.YtlaiadheelgbdaaGreatKZc
import Derived.Test.YtlaiadheelgbdaaGreatFZc
namespace Go.Proofs.YtlaiadheelgbdaaGreat.Fl
open Go.ChangeShapes Go.WideShapes Go.ChangeAt Go.RowKit Go.Maps
set_option linter.unusedSimpArgs false
set_option linter.unusedVariables false
set_option maxRecDepth 8000
theorem Fm.proc {O:Nat->Nat} {n:Nat} {W:World} {M:Fb} {Q:Ca.Qu} {T:Nat->Qo.Nd} {root:Int} {P:Fp} (h:Fm O n W M Q T root P):(Instr.lookup 32 (.map (some M.pm)) (.int .i64 0) false).run Tryz.prog W=.ok (.pointer (some ⟨M.pb,0,none⟩)) W:=by
 have q:=h.prm.look (k:=0) (by decide)
 rw [show (if (0:Int)=0 then some M.pb else none)=some M.pb from if_pos rfl] at q;exact q
def Sta (Y:(Nat->Nat)->World->Prop):Prop:= ∀ O V V',Y O V->V.heap.size<=V'.heap.size->(∀ j,O j≠0->V'.heap[j]? =V.heap[j]?)->Y O V'
def Tx (O:Nat->Nat) (W:World) (Y:(Nat->Nat)->World->Prop) (w':World):Prop:= ∃ O',Y O' w'/\(∀ j,j<W.heap.size->O' j=O j)/\(∀ j,O' j≠0->j<w'.heap.size)/\Ko O W w'
theorem Tx.to {O:Nat->Nat} {W w V V':World} {Y:(Nat->Nat)->World->Prop} (hY:Sta Y) (hb:Below W.heap.size W w) (h:Tx O w Y V) {b:Nat} (l1:W.heap.size<=b) (l2:b<w.heap.size) (ob:O b=0) (hg:V.grownBy V' (some b)):Tx O W Y V':=by
 obtain ⟨O',y,e,lt,k⟩:=h
 have ob':O' b=0:=(e b l2).trans ob
 refine ⟨O',hY O' V V' y hg.size (fun j hj=>hg.block j (lt j hj) (fun q=>hj (by rw [Option.some.inj q];exact ob'))),fun j hj=>e j (Nat.lt_of_lt_of_le hj hb.size),fun j hj=>Nat.lt_of_lt_of_le (lt j hj) hg.size,?_⟩
 refine (Ko.of_below hb).trans ((k.sub (fun j hj=>⟨hj.1,Nat.lt_of_lt_of_le hj.2 hb.size⟩)).trans (kept_grown hg fun j hj=>⟨by omega,Nat.lt_of_lt_of_le hj.2 (Nat.le_trans hb.size k.size)⟩))
theorem Tx.up {O:Nat->Nat} {W w V:World} {Y:(Nat->Nat)->World->Prop} (hb:Below W.heap.size W w) (h:Tx O w Y V):Tx O W Y V:=by
 obtain ⟨O',y,e,lt,k⟩:=h
 exact ⟨O',y,fun j hj=>e j (Nat.lt_of_lt_of_le hj hb.size),lt,(Ko.of_below hb).trans (k.sub (fun j hj=>⟨hj.1,Nat.lt_of_lt_of_le hj.2 hb.size⟩))⟩
theorem Fm.sta (n:Nat) (M:Fb) (Q:Ca.Qu) (T:Nat->Qo.Nd) (root:Int) (P:Fp):Sta (fun O w=>Fm O n w M Q T root P):=fun O V V' h hs hk=>h.keep hs hk
theorem Ko.blk {O:Nat->Nat} {w w':World} {b:Nat} {C:List Value} {t:TypeId} (k:Ko O w w') (h:Blk w b C t) (ob:O b=0):Blk w' b C t:=(k.block b ⟨ob,h.lt⟩).trans h
set_option maxHeartbeats 4000000 in
theorem change_map {O:Nat->Nat} {n:Nat} {W:World} {M:Fb} {Q:Ca.Qu} {T:Nat->Qo.Nd} {root:Int} {P:Fp} (h:Fm O n W M Q T root P) (k1 k2:Int) (k3 k4 k5:Bool) (ad sz x k6 k7 k8 k9:Int) (E:Int) (Y:(Nat->Nat)->World->Prop)
 (hM: ∀ O' w,Y O' w->Md w M.mb M.tq M.tb M.pm/\MapF w M.pm n (fun i=>if i=0 then some M.pb else none))
 (hA: ∀ w,Fm O n w M Q T root P->Calls Tryz.prog 54 #[pp M.pb,.agg #[.int .i64 1,.int .i64 k1,.int .i64 k2,.bool k3,.bool k4,.bool k5,.int .u64 ad,.int .i64 sz,.int .u64 x,.int .i64 k6,.int .i64 k7,.int .i64 k8,.int .i64 k9]] w fun e w'=>e=.returned (.int .i64 E)/\Tx O w Y w') :
 Calls Tryz.prog 29 #[pp M.mb,.int .i64 0,.agg #[.int .i64 1,.int .i64 k1,.int .i64 k2,.bool k3,.bool k4,.bool k5,.int .u64 ad,.int .i64 sz,.int .u64 x,.int .i64 k6,.int .i64 k7,.int .i64 k8,.int .i64 k9]] W fun e w'=>e=.returned (.int .i64 E)/\Tx O W Y w':=by
 have AC:Hid _:=hA
 have YM:Hid _:=hM
 have PL:Hid (∀ w:World,MapF w M.pm n (fun i=>if i=0 then some M.pb else none)->(Instr.lookup 32 (.map (some M.pm)) (.int .i64 0) false).run Tryz.prog w=.ok (.pointer (some ⟨M.pb,0,none⟩)) w):=fun w hw=>by
  have q:=hw.look (k:=0) (by decide)
  rw [show (if (0:Int)=0 then some M.pb else none)=some M.pb from if_pos rfl] at q;exact q
 have HM:Hid (Fm O n W M Q T root P):=h
 have G0:Hid (Below W.heap.size W (W.alloc (.cells #[.int .i64 1,.int .i64 k1,.int .i64 k2,.bool k3,.bool k4,.bool k5,.int .u64 ad,.int .i64 sz,.int .u64 x,.int .i64 k6,.int .i64 k7,.int .i64 k8,.int .i64 k9] 59))/\Blk (W.alloc (.cells #[.int .i64 1,.int .i64 k1,.int .i64 k2,.bool k3,.bool k4,.bool k5,.int .u64 ad,.int .i64 sz,.int .u64 x,.int .i64 k6,.int .i64 k7,.int .i64 k8,.int .i64 k9] 59)) W.heap.size [.int .i64 1,.int .i64 k1,.int .i64 k2,.bool k3,.bool k4,.bool k5,.int .u64 ad,.int .i64 sz,.int .u64 x,.int .i64 k6,.int .i64 k7,.int .i64 k8,.int .i64 k9] 59):=⟨Go.Joins.below_alloc1 _ _,Blk.made _ _ _⟩
 have OB0:O W.heap.size=0:=Classical.byContradiction fun hh=>by have:=h.lt _ hh;omega
 clear h hA hM
 go_enter Tryz.func29,Tryz.ntmps29
 go_upto_region 1 with fail
 generalize (W.alloc (.cells #[.int .i64 1,.int .i64 k1,.int .i64 k2,.bool k3,.bool k4,.bool k5,.int .u64 ad,.int .i64 sz,.int .u64 x,.int .i64 k6,.int .i64 k7,.int .i64 k8,.int .i64 k9] 59))=V at G0 |-
 obtain ⟨b1,hb1⟩: ∃ b1,b1=W.heap.size:=⟨_,rfl⟩
 have G1:Hid (Below W.heap.size W V/\Blk V b1 [.int .i64 1,.int .i64 k1,.int .i64 k2,.bool k3,.bool k4,.bool k5,.int .u64 ad,.int .i64 sz,.int .u64 x,.int .i64 k6,.int .i64 k7,.int .i64 k8,.int .i64 k9] 59):=by rw [hb1];exact G0.out
 have OB:Hid (O b1=0):=by rw [hb1];exact OB0
 rw [<- hb1]
 clear hb1 G0 OB0
 have x0:V.cell? ⟨b1,0,none⟩=some (.int .i64 1):=G1.out.2.cell 0
 go_upto_region 3 with fail
 clear x0
 have BS:Hid (Md V M.mb M.tq M.tb M.pm/\MapF V M.pm n (fun i=>if i=0 then some M.pb else none)/\Blk V b1 [.int .i64 1,.int .i64 k1,.int .i64 k2,.bool k3,.bool k4,.bool k5,.int .u64 ad,.int .i64 sz,.int .u64 x,.int .i64 k6,.int .i64 k7,.int .i64 k8,.int .i64 k9] 59):=⟨(HM.out.below G1.out.1).mod,(HM.out.below G1.out.1).prm,G1.out.2⟩
 refine wp_region_noPanic ?_
 refine wp_region_held_drew (S:=fun cw=>Md cw M.mb M.tq M.tb M.pm/\MapF cw M.pm n (fun i=>if i=0 then some M.pb else none)/\Blk cw b1 [.int .i64 1,.int .i64 k1,.int .i64 k2,.bool k3,.bool k4,.bool k5,.int .u64 ad,.int .i64 sz,.int .u64 x,.int .i64 k6,.int .i64 k7,.int .i64 k8,.int .i64 k9] 59) (by kernel_rfl) ?_ (fun hHeld=> ?_)
 . exact BS.out
 have KU:Hid (Below W.heap.size W V.drew):=below_drew G1.out.1
 clear BS
 generalize V.drew=U at hHeld KU |-
 refine tk 0 11 ?_ rfl (Or.inl ⟨by rfl,?_⟩) ?_
 rotate_left
 . intro w hSw;(try dsimp only at hSw);go_simp;(try with_reducible rfl)
 try simp only [Act.put,z1,z2,z3]
 refine tk 1 12 ?_ rfl (Or.inl ⟨by rfl,?_⟩) ?_
 rotate_left
 . intro w hSw;(try dsimp only at hSw);go_simp;(try with_reducible rfl)
 try simp only [Act.put,z1,z2,z3]
 refine tk 2 13 ?_ rfl (Or.inl ⟨by rfl,?_⟩) ?_
 rotate_left
 . intro w hSw;(try dsimp only at hSw);go_simp;(try with_reducible rfl)
 try simp only [Act.put,z1,z2,z3]
 refine tk 3 14 ((.map (some M.pm))) rfl (Or.inl ⟨by rfl,?_⟩) ?_
 . intro w hSw;(try dsimp only at hSw);have r:=hSw.1.2.2.1;(try go_simp);(try simp [*])
 try simp only [Act.put,z1,z2,z3]
 refine tk 4 15 ?_ rfl (Or.inl ⟨by rfl,?_⟩) ?_
 rotate_left
 . intro w hSw;(try dsimp only at hSw);go_simp;(try with_reducible rfl)
 try simp only [Act.put,z1,z2,z3]
 refine tk 5 16 ((.pointer (some ⟨M.pb,0,none⟩))) rfl (Or.inl ⟨by rfl,?_⟩) ?_
 . intro w hSw;(try dsimp only at hSw);have r:=PL.out w hSw.2.1;(try go_simp);(try simp [*])
 try simp only [Act.put,z1,z2,z3]
 refine tk 6 17 (.agg #[.int .i64 1,.int .i64 k1,.int .i64 k2,.bool k3,.bool k4,.bool k5,.int .u64 ad,.int .i64 sz,.int .u64 x,.int .i64 k6,.int .i64 k7,.int .i64 k8,.int .i64 k9]) rfl (Or.inl ⟨by rfl,?_⟩) ?_
 . intro w hSw;(try dsimp only at hSw);have r0:=Blk.cell hSw.2.2 0;have r1:=Blk.cell hSw.2.2 1;have r2:=Blk.cell hSw.2.2 2;have r3:=Blk.cell hSw.2.2 3;have r4:=Blk.cell hSw.2.2 4;have r5:=Blk.cell hSw.2.2 5;have r6:=Blk.cell hSw.2.2 6;have r7:=Blk.cell hSw.2.2 7;have r8:=Blk.cell hSw.2.2 8;have r9:=Blk.cell hSw.2.2 9;have r10:=Blk.cell hSw.2.2 10;have r11:=Blk.cell hSw.2.2 11;have r12:=Blk.cell hSw.2.2 12;(try go_simp);(try simp [*])
 try simp only [Act.put,z1,z2,z3]
 refine wpAnyH_ready (rs:=[7]) (by kernel_rfl) (by simp) ?_
 refine AllReadyH.cons (o:=⟨some 18,_,_,_,_,none⟩) rfl (fun K hK=> ?_) AllReadyH.nil
 go_simp
 go_wp2_with (go_at_call 54;refine Calls.mono (AC.out _ (HM.out.below KU.out)) ?_;rintro e u1 ⟨rfl,hx⟩)
 have E1:Hid (Tx O W Y u1):=Tx.up KU.out hx
 obtain ⟨O1,hy1,eo1,_,ko1⟩:=hx
 have S1:Hid (Md u1 M.mb M.tq M.tb M.pm/\MapF u1 M.pm n (fun i=>if i=0 then some M.pb else none)/\Blk u1 b1 [.int .i64 1,.int .i64 k1,.int .i64 k2,.bool k3,.bool k4,.bool k5,.int .u64 ad,.int .i64 sz,.int .u64 x,.int .i64 k6,.int .i64 k7,.int .i64 k8,.int .i64 k9] 59):=⟨(YM.out _ _ hy1).1,(YM.out _ _ hy1).2,ko1.blk hHeld.2.2 (OB.out)⟩
 refine hK.out _ _ S1.out (fun hHeld2=> ?_)
 clear hK K hHeld eo1 ko1 hy1 S1 KU
 have hHeld:=hHeld2
 clear hHeld2
 try simp only [Act.put,z1,z2,z3]
 refine tk 8 6 ?_ rfl (Or.inl ⟨by rfl,?_⟩) ?_
 rotate_left
 . intro w hSw;(try dsimp only at hSw);go_simp;(try with_reducible rfl)
 try simp only [Act.put,z1,z2,z3]
 clear hHeld
 refine wpAnyH_done (by kernel_rfl) ?_ _
 refine NoPanic.normal ?_
 go_wp2_with fail
 go_returns
 exact ⟨rfl,E1.out⟩
end Go.Proofs.YtlaiadheelgbdaaGreat.Fl
namespace Go.Proofs.YtlaiadheelgbdaaGreat.Fl
open Go.ChangeShapes Go.WideShapes Go.ChangeAt Go.RowKit Go.Maps
set_option linter.unusedSimpArgs false
set_option linter.unusedVariables false
set_option maxRecDepth 8000
set_option maxHeartbeats 4000000 in
theorem serve_map {O:Nat->Nat} {n:Nat} {W:World} {M:Fb} {Q:Ca.Qu} {T:Nat->Qo.Nd} {root:Int} {P:Fp} (h:Fm O n W M Q T root P) (k1 k2:Int) (k3 k4 k5:Bool) (ad sz x k6 k7 k8 k9:Int) (E:Int) (Y:(Nat->Nat)->World->Prop) (hY:Sta Y)
 (hC: ∀ w,Fm O n w M Q T root P->Calls Tryz.prog 29 #[pp M.mb,.int .i64 0,.agg #[.int .i64 1,.int .i64 k1,.int .i64 k2,.bool k3,.bool k4,.bool k5,.int .u64 ad,.int .i64 sz,.int .u64 x,.int .i64 k6,.int .i64 k7,.int .i64 k8,.int .i64 k9]] w fun e w'=>e=.returned (.int .i64 E)/\Tx O w Y w') :
 Calls Tryz.prog 14 #[pp M.mb,.int .i64 0,.agg #[.int .i64 1,.int .i64 k1,.int .i64 k2,.bool k3,.bool k4,.bool k5,.int .u64 ad,.int .i64 sz,.int .u64 x,.int .i64 k6,.int .i64 k7,.int .i64 k8,.int .i64 k9]] W fun e w'=>e=.returned (.agg #[.int .i64 0,.int .u64 0,.int .i64 E,.int .u64 0,.int .i64 0,.bool false])/\Tx O W Y w':=by
 have CC:Hid _:=hC
 clear hC
 have HM:Hid (Fm O n W M Q T root P):=h
 have SY:Hid (Sta Y):=hY
 have s1:(W.alloc (.cells #[.int .i64 1,.int .i64 k1,.int .i64 k2,.bool k3,.bool k4,.bool k5,.int .u64 ad,.int .i64 sz,.int .u64 x,.int .i64 k6,.int .i64 k7,.int .i64 k8,.int .i64 k9] 59)).heap.size=W.heap.size+1:=World.size_alloc _ _
 have G0:Hid (Below W.heap.size W ((W.alloc (.cells #[.int .i64 1,.int .i64 k1,.int .i64 k2,.bool k3,.bool k4,.bool k5,.int .u64 ad,.int .i64 sz,.int .u64 x,.int .i64 k6,.int .i64 k7,.int .i64 k8,.int .i64 k9] 59)).alloc (.cells #[.int .i64 0,.int .u64 0,.int .i64 0,.int .u64 0,.int .i64 0,.bool false] 39))/\Blk ((W.alloc (.cells #[.int .i64 1,.int .i64 k1,.int .i64 k2,.bool k3,.bool k4,.bool k5,.int .u64 ad,.int .i64 sz,.int .u64 x,.int .i64 k6,.int .i64 k7,.int .i64 k8,.int .i64 k9] 59)).alloc (.cells #[.int .i64 0,.int .u64 0,.int .i64 0,.int .u64 0,.int .i64 0,.bool false] 39)) W.heap.size [.int .i64 1,.int .i64 k1,.int .i64 k2,.bool k3,.bool k4,.bool k5,.int .u64 ad,.int .i64 sz,.int .u64 x,.int .i64 k6,.int .i64 k7,.int .i64 k8,.int .i64 k9] 59/\Blk ((W.alloc (.cells #[.int .i64 1,.int .i64 k1,.int .i64 k2,.bool k3,.bool k4,.bool k5,.int .u64 ad,.int .i64 sz,.int .u64 x,.int .i64 k6,.int .i64 k7,.int .i64 k8,.int .i64 k9] 59)).alloc (.cells #[.int .i64 0,.int .u64 0,.int .i64 0,.int .u64 0,.int .i64 0,.bool false] 39)) (W.heap.size+1) [.int .i64 0,.int .u64 0,.int .i64 0,.int .u64 0,.int .i64 0,.bool false] 39):=by
  have b1:Below (W.alloc (.cells #[.int .i64 1,.int .i64 k1,.int .i64 k2,.bool k3,.bool k4,.bool k5,.int .u64 ad,.int .i64 sz,.int .u64 x,.int .i64 k6,.int .i64 k7,.int .i64 k8,.int .i64 k9] 59)).heap.size (W.alloc (.cells #[.int .i64 1,.int .i64 k1,.int .i64 k2,.bool k3,.bool k4,.bool k5,.int .u64 ad,.int .i64 sz,.int .u64 x,.int .i64 k6,.int .i64 k7,.int .i64 k8,.int .i64 k9] 59)) ((W.alloc (.cells #[.int .i64 1,.int .i64 k1,.int .i64 k2,.bool k3,.bool k4,.bool k5,.int .u64 ad,.int .i64 sz,.int .u64 x,.int .i64 k6,.int .i64 k7,.int .i64 k8,.int .i64 k9] 59)).alloc (.cells #[.int .i64 0,.int .u64 0,.int .i64 0,.int .u64 0,.int .i64 0,.bool false] 39)):=Go.Joins.below_alloc1 _ _
  refine ⟨below_then (Go.Joins.below_alloc1 _ _) b1,(Blk.made _ _ _).below b1,?_⟩
  rw [<- s1];exact Blk.made _ _ _
 clear h s1 hY
 go_enter Tryz.func14,Tryz.ntmps14
 go_upto_region 1 with fail
 generalize ((W.alloc (.cells #[.int .i64 1,.int .i64 k1,.int .i64 k2,.bool k3,.bool k4,.bool k5,.int .u64 ad,.int .i64 sz,.int .u64 x,.int .i64 k6,.int .i64 k7,.int .i64 k8,.int .i64 k9] 59)).alloc (.cells #[.int .i64 0,.int .u64 0,.int .i64 0,.int .u64 0,.int .i64 0,.bool false] 39))=V at G0 |-
 obtain ⟨b2,hb2⟩: ∃ b2,b2=W.heap.size+1:=⟨_,rfl⟩
 obtain ⟨b1,hb1⟩: ∃ b1,b1=W.heap.size:=⟨_,rfl⟩
 have G1:Hid (Below W.heap.size W V/\Blk V b1 [.int .i64 1,.int .i64 k1,.int .i64 k2,.bool k3,.bool k4,.bool k5,.int .u64 ad,.int .i64 sz,.int .u64 x,.int .i64 k6,.int .i64 k7,.int .i64 k8,.int .i64 k9] 59/\Blk V b2 [.int .i64 0,.int .u64 0,.int .i64 0,.int .u64 0,.int .i64 0,.bool false] 39):=by rw [hb2,hb1];exact G0.out
 have NB:Hid (W.heap.size<=b1/\W.heap.size<=b2/\b1≠b2):=⟨by omega,by omega,by omega⟩
 have OB:Hid (O b1=0/\O b2=0):=⟨Classical.byContradiction fun hh=>by have:=HM.out.lt b1 hh;omega,Classical.byContradiction fun hh=>by have:=HM.out.lt b2 hh;omega⟩
 rw [<- hb2,<- hb1]
 clear hb1 hb2 G0
 have x0:V.cell? ⟨b1,0,none⟩=some (.int .i64 1):=G1.out.2.1.cell 0
 have x1:V.cell? ⟨b1,1,none⟩=some (.int .i64 k1):=G1.out.2.1.cell 1
 have x2:V.cell? ⟨b1,2,none⟩=some (.int .i64 k2):=G1.out.2.1.cell 2
 have x3:V.cell? ⟨b1,3,none⟩=some (.bool k3):=G1.out.2.1.cell 3
 have x4:V.cell? ⟨b1,4,none⟩=some (.bool k4):=G1.out.2.1.cell 4
 have x5:V.cell? ⟨b1,5,none⟩=some (.bool k5):=G1.out.2.1.cell 5
 have x6:V.cell? ⟨b1,6,none⟩=some (.int .u64 ad):=G1.out.2.1.cell 6
 have x7:V.cell? ⟨b1,7,none⟩=some (.int .i64 sz):=G1.out.2.1.cell 7
 have x8:V.cell? ⟨b1,8,none⟩=some (.int .u64 x):=G1.out.2.1.cell 8
 have x9:V.cell? ⟨b1,9,none⟩=some (.int .i64 k6):=G1.out.2.1.cell 9
 have x10:V.cell? ⟨b1,10,none⟩=some (.int .i64 k7):=G1.out.2.1.cell 10
 have x11:V.cell? ⟨b1,11,none⟩=some (.int .i64 k8):=G1.out.2.1.cell 11
 have x12:V.cell? ⟨b1,12,none⟩=some (.int .i64 k9):=G1.out.2.1.cell 12
 go_wp2_with fail
 refine Calls.mono (CC.out _ (HM.out.below G1.out.1)) ?_
 rintro e V2 ⟨rfl,hx⟩
 have KO:Ko O V V2:=by obtain ⟨O1,_,_,_,k⟩:=hx;exact k
 have B2:Blk V2 b2 [.int .i64 0,.int .u64 0,.int .i64 0,.int .u64 0,.int .i64 0,.bool false] 39:=KO.blk G1.out.2.2 OB.out.2
 have q0:V2.cell? ⟨b2,0,none⟩=some (.int .i64 0):=B2.cell 0
 have f0:V2.frozen? ⟨b2,0,none⟩=false:=B2.free 0
 have q1:V2.cell? ⟨b2,1,none⟩=some (.int .u64 0):=B2.cell 1
 have f1:V2.frozen? ⟨b2,1,none⟩=false:=B2.free 1
 have q2:V2.cell? ⟨b2,2,none⟩=some (.int .i64 0):=B2.cell 2
 have f2:V2.frozen? ⟨b2,2,none⟩=false:=B2.free 2
 have q3:V2.cell? ⟨b2,3,none⟩=some (.int .u64 0):=B2.cell 3
 have f3:V2.frozen? ⟨b2,3,none⟩=false:=B2.free 3
 have q4:V2.cell? ⟨b2,4,none⟩=some (.int .i64 0):=B2.cell 4
 have f4:V2.frozen? ⟨b2,4,none⟩=false:=B2.free 4
 have q5:V2.cell? ⟨b2,5,none⟩=some (.bool false):=B2.cell 5
 have f5:V2.frozen? ⟨b2,5,none⟩=false:=B2.free 5
 have HE:Hid (Tx O V Y V2/\Blk V2 b2 [.int .i64 0,.int .u64 0,.int .i64 0,.int .u64 0,.int .i64 0,.bool false] 39):=⟨hx,B2⟩
 clear hx KO B2 CC x0 x1 x2 x3 x4 x5 x6 x7 x8 x9 x10 x11 x12
 go_wp2_with fail
 have RG:(World.setCells V2 b2 0 [.int .i64 0,.int .u64 0,.int .i64 E,.int .u64 0,.int .i64 0,.bool false]).rangeAt b2 0 [.int .i64 0,.int .u64 0,.int .i64 E,.int .u64 0,.int .i64 0,.bool false]:=(Blk.put (cs:=[.int .i64 0,.int .u64 0,.int .i64 E,.int .u64 0,.int .i64 0,.bool false]) HE.out.2 rfl).range
 have LV:(loadVar 39 ⟨b2,0,none⟩).run Tryz.prog (World.setCells V2 b2 0 [.int .i64 0,.int .u64 0,.int .i64 E,.int .u64 0,.int .i64 0,.bool false])=.ok (.agg #[.int .i64 0,.int .u64 0,.int .i64 E,.int .u64 0,.int .i64 0,.bool false]) (World.setCells V2 b2 0 [.int .i64 0,.int .u64 0,.int .i64 E,.int .u64 0,.int .i64 0,.bool false]):=run_loadVar_mid (P:=Tryz.prog) _ b2 0 39 [.int .i64 0,.int .u64 0,.int .i64 E,.int .u64 0,.int .i64 0,.bool false] _ RG Tryz.underlying39 rfl (by kernel_rfl)
 change bodyPost _ _ _ _ _ (World.setCells V2 b2 0 [.int .i64 0,.int .u64 0,.int .i64 E,.int .u64 0,.int .i64 0,.bool false])
 refine bodyPost_ret (v:=.agg #[.int .i64 0,.int .u64 0,.int .i64 E,.int .u64 0,.int .i64 0,.bool false]) (results_one Tryz.results14 _ _ _ ⟨b2,0,none⟩ _ rfl LV) rfl ?_
 exact ⟨rfl,Tx.to SY.out G1.out.1 HE.out.1 NB.out.2.1 G1.out.2.2.lt OB.out.2 (grown_setCells _ _ _ _)⟩
set_option maxHeartbeats 4000000 in
theorem serve_acc5 {O:Nat->Nat} {n:Nat} {W:World} {M:Fb} {Q:Ca.Qu} {T:Nat->Qo.Nd} {root:Int} {P:Fp} (h:Fm O n W M Q T root P) (k1 k2:Int) (k3 k4 k5:Bool) (ad sz x k6 k7 k8 k9:Int) (r0 r1 r2 r3 r4:Int) (r5:Bool) (nn:Nat) (hnn:n<=nn) (Y:(Nat->Nat)->World->Prop) (hY:Sta Y)
 (hM: ∀ O' w,Y O' w->Md w M.mb M.tq M.tb M.pm/\MapF w M.pm nn (fun i=>if i=0 then some M.pb else none))
 (hA: ∀ w,Fm O n w M Q T root P->Calls Tryz.prog 26 #[pp M.mb,pp M.pb,.agg #[.int .i64 5,.int .i64 k1,.int .i64 k2,.bool k3,.bool k4,.bool k5,.int .u64 ad,.int .i64 sz,.int .u64 x,.int .i64 k6,.int .i64 k7,.int .i64 k8,.int .i64 k9]] w fun e w'=>e=.returned (.agg #[.int .i64 r0,.int .u64 r1,.int .i64 r2,.int .u64 r3,.int .i64 r4,.bool r5])/\Tx O w Y w') :
 Calls Tryz.prog 14 #[pp M.mb,.int .i64 0,.agg #[.int .i64 5,.int .i64 k1,.int .i64 k2,.bool k3,.bool k4,.bool k5,.int .u64 ad,.int .i64 sz,.int .u64 x,.int .i64 k6,.int .i64 k7,.int .i64 k8,.int .i64 k9]] W fun e w'=>e=.returned (.agg #[.int .i64 r0,.int .u64 r1,.int .i64 r2,.int .u64 r3,.int .i64 r4,.bool r5])/\Tx O W Y w':=by
 have AC:Hid _:=hA
 have YM:Hid _:=hM
 have PL:Hid (∀ w:World,MapF w M.pm nn (fun i=>if i=0 then some M.pb else none)->(Instr.lookup 32 (.map (some M.pm)) (.int .i64 0) false).run Tryz.prog w=.ok (.pointer (some ⟨M.pb,0,none⟩)) w):=fun w hw=>by
  have q:=hw.look (k:=0) (by decide)
  rw [show (if (0:Int)=0 then some M.pb else none)=some M.pb from if_pos rfl] at q;exact q
 clear hA hM
 have HM:Hid (Fm O n W M Q T root P):=h
 have SY:Hid (Sta Y):=hY
 have s1:(W.alloc (.cells #[.int .i64 5,.int .i64 k1,.int .i64 k2,.bool k3,.bool k4,.bool k5,.int .u64 ad,.int .i64 sz,.int .u64 x,.int .i64 k6,.int .i64 k7,.int .i64 k8,.int .i64 k9] 59)).heap.size=W.heap.size+1:=World.size_alloc _ _
 have G0:Hid (Below W.heap.size W ((W.alloc (.cells #[.int .i64 5,.int .i64 k1,.int .i64 k2,.bool k3,.bool k4,.bool k5,.int .u64 ad,.int .i64 sz,.int .u64 x,.int .i64 k6,.int .i64 k7,.int .i64 k8,.int .i64 k9] 59)).alloc (.cells #[.int .i64 0,.int .u64 0,.int .i64 0,.int .u64 0,.int .i64 0,.bool false] 39))/\Blk ((W.alloc (.cells #[.int .i64 5,.int .i64 k1,.int .i64 k2,.bool k3,.bool k4,.bool k5,.int .u64 ad,.int .i64 sz,.int .u64 x,.int .i64 k6,.int .i64 k7,.int .i64 k8,.int .i64 k9] 59)).alloc (.cells #[.int .i64 0,.int .u64 0,.int .i64 0,.int .u64 0,.int .i64 0,.bool false] 39)) W.heap.size [.int .i64 5,.int .i64 k1,.int .i64 k2,.bool k3,.bool k4,.bool k5,.int .u64 ad,.int .i64 sz,.int .u64 x,.int .i64 k6,.int .i64 k7,.int .i64 k8,.int .i64 k9] 59/\Blk ((W.alloc (.cells #[.int .i64 5,.int .i64 k1,.int .i64 k2,.bool k3,.bool k4,.bool k5,.int .u64 ad,.int .i64 sz,.int .u64 x,.int .i64 k6,.int .i64 k7,.int .i64 k8,.int .i64 k9] 59)).alloc (.cells #[.int .i64 0,.int .u64 0,.int .i64 0,.int .u64 0,.int .i64 0,.bool false] 39)) (W.heap.size+1) [.int .i64 0,.int .u64 0,.int .i64 0,.int .u64 0,.int .i64 0,.bool false] 39):=by
  have b1:Below (W.alloc (.cells #[.int .i64 5,.int .i64 k1,.int .i64 k2,.bool k3,.bool k4,.bool k5,.int .u64 ad,.int .i64 sz,.int .u64 x,.int .i64 k6,.int .i64 k7,.int .i64 k8,.int .i64 k9] 59)).heap.size (W.alloc (.cells #[.int .i64 5,.int .i64 k1,.int .i64 k2,.bool k3,.bool k4,.bool k5,.int .u64 ad,.int .i64 sz,.int .u64 x,.int .i64 k6,.int .i64 k7,.int .i64 k8,.int .i64 k9] 59)) ((W.alloc (.cells #[.int .i64 5,.int .i64 k1,.int .i64 k2,.bool k3,.bool k4,.bool k5,.int .u64 ad,.int .i64 sz,.int .u64 x,.int .i64 k6,.int .i64 k7,.int .i64 k8,.int .i64 k9] 59)).alloc (.cells #[.int .i64 0,.int .u64 0,.int .i64 0,.int .u64 0,.int .i64 0,.bool false] 39)):=Go.Joins.below_alloc1 _ _
  refine ⟨below_then (Go.Joins.below_alloc1 _ _) b1,(Blk.made _ _ _).below b1,?_⟩
  rw [<- s1];exact Blk.made _ _ _
 clear h s1 hY
 go_enter Tryz.func14,Tryz.ntmps14
 go_upto_region 1 with fail
 generalize ((W.alloc (.cells #[.int .i64 5,.int .i64 k1,.int .i64 k2,.bool k3,.bool k4,.bool k5,.int .u64 ad,.int .i64 sz,.int .u64 x,.int .i64 k6,.int .i64 k7,.int .i64 k8,.int .i64 k9] 59)).alloc (.cells #[.int .i64 0,.int .u64 0,.int .i64 0,.int .u64 0,.int .i64 0,.bool false] 39))=V at G0 |-
 obtain ⟨b2,hb2⟩: ∃ b2,b2=W.heap.size+1:=⟨_,rfl⟩
 obtain ⟨b1,hb1⟩: ∃ b1,b1=W.heap.size:=⟨_,rfl⟩
 have G1:Hid (Below W.heap.size W V/\Blk V b1 [.int .i64 5,.int .i64 k1,.int .i64 k2,.bool k3,.bool k4,.bool k5,.int .u64 ad,.int .i64 sz,.int .u64 x,.int .i64 k6,.int .i64 k7,.int .i64 k8,.int .i64 k9] 59/\Blk V b2 [.int .i64 0,.int .u64 0,.int .i64 0,.int .u64 0,.int .i64 0,.bool false] 39):=by rw [hb2,hb1];exact G0.out
 have NB:Hid (W.heap.size<=b1/\W.heap.size<=b2/\b1≠b2):=⟨by omega,by omega,by omega⟩
 have OB:Hid (O b1=0/\O b2=0):=⟨Classical.byContradiction fun hh=>by have:=HM.out.lt b1 hh;omega,Classical.byContradiction fun hh=>by have:=HM.out.lt b2 hh;omega⟩
 rw [<- hb2,<- hb1]
 clear hb1 hb2 G0
 have x0:V.cell? ⟨b1,0,none⟩=some (.int .i64 5):=G1.out.2.1.cell 0
 go_upto_region 4 with fail
 clear x0
 have BS:Hid (Md V M.mb M.tq M.tb M.pm/\MapF V M.pm nn (fun i=>if i=0 then some M.pb else none)/\Blk V b1 [.int .i64 5,.int .i64 k1,.int .i64 k2,.bool k3,.bool k4,.bool k5,.int .u64 ad,.int .i64 sz,.int .u64 x,.int .i64 k6,.int .i64 k7,.int .i64 k8,.int .i64 k9] 59):=⟨(HM.out.below G1.out.1).mod,(HM.out.below G1.out.1).prm.mono hnn,G1.out.2.1⟩
 refine wp_region_noPanic ?_
 refine wp_region_held_drew (S:=fun cw=>Md cw M.mb M.tq M.tb M.pm/\MapF cw M.pm nn (fun i=>if i=0 then some M.pb else none)/\Blk cw b1 [.int .i64 5,.int .i64 k1,.int .i64 k2,.bool k3,.bool k4,.bool k5,.int .u64 ad,.int .i64 sz,.int .u64 x,.int .i64 k6,.int .i64 k7,.int .i64 k8,.int .i64 k9] 59) (by kernel_rfl) ?_ (fun hHeld=> ?_)
 . exact BS.out
 have KU:Hid (Below V.heap.size V V.drew):=below_drew (Below.refl _ _)
 clear BS
 generalize V.drew=U at hHeld KU |-
 refine tk 0 12 ?_ rfl (Or.inl ⟨by rfl,?_⟩) ?_
 rotate_left
 . intro w hSw;(try dsimp only at hSw);go_simp;(try with_reducible rfl)
 try simp only [Act.put,z1,z2,z3]
 refine tk 1 13 ?_ rfl (Or.inl ⟨by rfl,?_⟩) ?_
 rotate_left
 . intro w hSw;(try dsimp only at hSw);go_simp;(try with_reducible rfl)
 try simp only [Act.put,z1,z2,z3]
 refine tk 2 14 ?_ rfl (Or.inl ⟨by rfl,?_⟩) ?_
 rotate_left
 . intro w hSw;(try dsimp only at hSw);go_simp;(try with_reducible rfl)
 try simp only [Act.put,z1,z2,z3]
 refine tk 3 15 ?_ rfl (Or.inl ⟨by rfl,?_⟩) ?_
 rotate_left
 . intro w hSw;(try dsimp only at hSw);go_simp;(try with_reducible rfl)
 try simp only [Act.put,z1,z2,z3]
 refine tk 4 16 ((.map (some M.pm))) rfl (Or.inl ⟨by rfl,?_⟩) ?_
 . intro w hSw;(try dsimp only at hSw);have r:=hSw.1.2.2.1;(try go_simp);(try simp [*])
 try simp only [Act.put,z1,z2,z3]
 refine tk 5 17 ?_ rfl (Or.inl ⟨by rfl,?_⟩) ?_
 rotate_left
 . intro w hSw;(try dsimp only at hSw);go_simp;(try with_reducible rfl)
 try simp only [Act.put,z1,z2,z3]
 refine tk 6 18 ((.pointer (some ⟨M.pb,0,none⟩))) rfl (Or.inl ⟨by rfl,?_⟩) ?_
 . intro w hSw;(try dsimp only at hSw);have r:=PL.out w hSw.2.1;(try go_simp);(try simp [*])
 try simp only [Act.put,z1,z2,z3]
 refine tk 7 19 (.agg #[.int .i64 5,.int .i64 k1,.int .i64 k2,.bool k3,.bool k4,.bool k5,.int .u64 ad,.int .i64 sz,.int .u64 x,.int .i64 k6,.int .i64 k7,.int .i64 k8,.int .i64 k9]) rfl (Or.inl ⟨by rfl,?_⟩) ?_
 . intro w hSw;(try dsimp only at hSw);have r0:=Blk.cell hSw.2.2 0;have r1:=Blk.cell hSw.2.2 1;have r2:=Blk.cell hSw.2.2 2;have r3:=Blk.cell hSw.2.2 3;have r4:=Blk.cell hSw.2.2 4;have r5:=Blk.cell hSw.2.2 5;have r6:=Blk.cell hSw.2.2 6;have r7:=Blk.cell hSw.2.2 7;have r8:=Blk.cell hSw.2.2 8;have r9:=Blk.cell hSw.2.2 9;have r10:=Blk.cell hSw.2.2 10;have r11:=Blk.cell hSw.2.2 11;have r12:=Blk.cell hSw.2.2 12;(try go_simp);(try simp [*])
 try simp only [Act.put,z1,z2,z3]
 refine wpAnyH_ready (rs:=[8]) (by kernel_rfl) (by simp) ?_
 refine AllReadyH.cons (o:=⟨some 20,_,_,_,_,none⟩) rfl (fun K hK=> ?_) AllReadyH.nil
 go_simp
 go_wp2_with (go_at_call 26;refine Calls.mono (AC.out _ ((HM.out.below G1.out.1).below KU.out)) ?_;rintro e u1 ⟨rfl,hx⟩)
 have E1:Hid (Tx O V Y u1/\Blk u1 b2 [.int .i64 0,.int .u64 0,.int .i64 0,.int .u64 0,.int .i64 0,.bool false] 39):=by
  have hx2:=Tx.up KU.out hx
  obtain ⟨O1,_,_,_,k⟩:=hx
  exact ⟨hx2,k.blk (G1.out.2.2.below KU.out) OB.out.2⟩
 obtain ⟨O1,hy1,_,lt1,ko1⟩:=hx
 have S1:Hid (Md u1 M.mb M.tq M.tb M.pm/\MapF u1 M.pm nn (fun i=>if i=0 then some M.pb else none)/\Blk u1 b1 [.int .i64 5,.int .i64 k1,.int .i64 k2,.bool k3,.bool k4,.bool k5,.int .u64 ad,.int .i64 sz,.int .u64 x,.int .i64 k6,.int .i64 k7,.int .i64 k8,.int .i64 k9] 59):=⟨(YM.out _ _ hy1).1,(YM.out _ _ hy1).2,ko1.blk hHeld.2.2 OB.out.1⟩
 have NE:Hid (M.mb≠b2/\M.pm≠b2):=by
  have l1:=HM.out.lt M.mb (by rw [HM.out.o1];omega)
  have l4:=HM.out.lt M.pm (by rw [HM.out.o4];omega)
  have:=NB.out
  exact ⟨by omega,by omega⟩
 refine hK.out _ _ S1.out (fun hHeld2=> ?_)
 clear hK K hHeld hy1 lt1 ko1 S1 KU
 have hHeld:=hHeld2
 clear hHeld2
 try simp only [Act.put,z1,z2,z3]
 refine wpAnyH_ready (rs:=[9]) (by kernel_rfl) (by simp) ?_
 refine AllReadyH.cons (o:=⟨none,.store 39 (.tmp 6) (.tmp 20),_,_,_,none⟩) rfl (fun K hK=> ?_) AllReadyH.nil
 refine wanted_mp rfl ?_
 have th:u1.there b2 0 6:=E1.out.2.there
 refine wp_store_mid _ _ _ rfl b2 0 #[.int .i64 r0,.int .u64 r1,.int .i64 r2,.int .u64 r3,.int .i64 r4,.bool r5] rfl rfl th (by kernel_rfl) (by simp [Value.oneCell']) ?_
 (try simp only [List.toList_toArray])
 have gk:=grown_setCells b2 [.int .i64 r0,.int .u64 r1,.int .i64 r2,.int .u64 r3,.int .i64 r4,.bool r5] 0 u1
 have ne:=NE.out
 have F9:Hid (Blk (u1.setCells b2 0 [.int .i64 r0,.int .u64 r1,.int .i64 r2,.int .u64 r3,.int .i64 r4,.bool r5]) b2 [.int .i64 r0,.int .u64 r1,.int .i64 r2,.int .u64 r3,.int .i64 r4,.bool r5] 39):=E1.out.2.put rfl
 have S9:Hid (Md (u1.setCells b2 0 [.int .i64 r0,.int .u64 r1,.int .i64 r2,.int .u64 r3,.int .i64 r4,.bool r5]) M.mb M.tq M.tb M.pm/\MapF (u1.setCells b2 0 [.int .i64 r0,.int .u64 r1,.int .i64 r2,.int .u64 r3,.int .i64 r4,.bool r5]) M.pm nn (fun i=>if i=0 then some M.pb else none)/\Blk (u1.setCells b2 0 [.int .i64 r0,.int .u64 r1,.int .i64 r2,.int .u64 r3,.int .i64 r4,.bool r5]) b1 [.int .i64 5,.int .i64 k1,.int .i64 k2,.bool k3,.bool k4,.bool k5,.int .u64 ad,.int .i64 sz,.int .u64 x,.int .i64 k6,.int .i64 k7,.int .i64 k8,.int .i64 k9] 59):=⟨hHeld.1.block gk.size (gk.block _ hHeld.1.2.2.2 (fun e=>ne.1 (Option.some.inj e))),hHeld.2.1.block (gk.block _ hHeld.2.1.lt (fun e=>ne.2 (Option.some.inj e))),(gk.block _ hHeld.2.2.lt (fun e=>NB.out.2.2 (Option.some.inj e))).trans hHeld.2.2⟩
 have HE:Hid (Tx O W Y (u1.setCells b2 0 [.int .i64 r0,.int .u64 r1,.int .i64 r2,.int .u64 r3,.int .i64 r4,.bool r5])):=Tx.to SY.out G1.out.1 E1.out.1 NB.out.2.1 G1.out.2.2.lt OB.out.2 gk
 clear gk ne
 generalize u1.setCells b2 0 [.int .i64 r0,.int .u64 r1,.int .i64 r2,.int .u64 r3,.int .i64 r4,.bool r5]=u9 at *
 refine hK.out _ _ S9.out (fun hHeld2=> ?_)
 clear hK K hHeld th S9 E1
 have hHeld:=hHeld2
 clear hHeld2
 try simp only [Act.put,z1,z2,z3]
 clear hHeld
 refine wpAnyH_done (by kernel_rfl) ?_ _
 refine NoPanic.normal ?_
 have LV:(loadVar 39 ⟨b2,0,none⟩).run Tryz.prog u9=.ok (.agg #[.int .i64 r0,.int .u64 r1,.int .i64 r2,.int .u64 r3,.int .i64 r4,.bool r5]) u9:=run_loadVar_mid (P:=Tryz.prog) _ b2 0 39 [.int .i64 r0,.int .u64 r1,.int .i64 r2,.int .u64 r3,.int .i64 r4,.bool r5] _ F9.out.range Tryz.underlying39 rfl (by kernel_rfl)
 go_wp2_with fail
 refine bodyPost_ret (v:=.agg #[.int .i64 r0,.int .u64 r1,.int .i64 r2,.int .u64 r3,.int .i64 r4,.bool r5]) (results_one Tryz.results14 _ _ _ ⟨b2,0,none⟩ _ rfl LV) rfl ?_
 exact ⟨rfl,HE.out⟩
set_option maxHeartbeats 4000000 in
theorem serve_acc4 {O:Nat->Nat} {n:Nat} {W:World} {M:Fb} {Q:Ca.Qu} {T:Nat->Qo.Nd} {root:Int} {P:Fp} (h:Fm O n W M Q T root P) (k1 k2:Int) (k3 k4 k5:Bool) (ad sz x k6 k7 k8 k9:Int) (r0 r1 r2 r3 r4:Int) (r5:Bool) (nn:Nat) (hnn:n<=nn) (Y:(Nat->Nat)->World->Prop) (hY:Sta Y)
 (hM: ∀ O' w,Y O' w->Md w M.mb M.tq M.tb M.pm/\MapF w M.pm nn (fun i=>if i=0 then some M.pb else none))
 (hA: ∀ w,Fm O n w M Q T root P->Calls Tryz.prog 26 #[pp M.mb,pp M.pb,.agg #[.int .i64 4,.int .i64 k1,.int .i64 k2,.bool k3,.bool k4,.bool k5,.int .u64 ad,.int .i64 sz,.int .u64 x,.int .i64 k6,.int .i64 k7,.int .i64 k8,.int .i64 k9]] w fun e w'=>e=.returned (.agg #[.int .i64 r0,.int .u64 r1,.int .i64 r2,.int .u64 r3,.int .i64 r4,.bool r5])/\Tx O w Y w') :
 Calls Tryz.prog 14 #[pp M.mb,.int .i64 0,.agg #[.int .i64 4,.int .i64 k1,.int .i64 k2,.bool k3,.bool k4,.bool k5,.int .u64 ad,.int .i64 sz,.int .u64 x,.int .i64 k6,.int .i64 k7,.int .i64 k8,.int .i64 k9]] W fun e w'=>e=.returned (.agg #[.int .i64 r0,.int .u64 r1,.int .i64 r2,.int .u64 r3,.int .i64 r4,.bool r5])/\Tx O W Y w':=by
 have AC:Hid _:=hA
 have YM:Hid _:=hM
 have PL:Hid (∀ w:World,MapF w M.pm nn (fun i=>if i=0 then some M.pb else none)->(Instr.lookup 32 (.map (some M.pm)) (.int .i64 0) false).run Tryz.prog w=.ok (.pointer (some ⟨M.pb,0,none⟩)) w):=fun w hw=>by
  have q:=hw.look (k:=0) (by decide)
  rw [show (if (0:Int)=0 then some M.pb else none)=some M.pb from if_pos rfl] at q;exact q
 clear hA hM
 have HM:Hid (Fm O n W M Q T root P):=h
 have SY:Hid (Sta Y):=hY
 have s1:(W.alloc (.cells #[.int .i64 4,.int .i64 k1,.int .i64 k2,.bool k3,.bool k4,.bool k5,.int .u64 ad,.int .i64 sz,.int .u64 x,.int .i64 k6,.int .i64 k7,.int .i64 k8,.int .i64 k9] 59)).heap.size=W.heap.size+1:=World.size_alloc _ _
 have G0:Hid (Below W.heap.size W ((W.alloc (.cells #[.int .i64 4,.int .i64 k1,.int .i64 k2,.bool k3,.bool k4,.bool k5,.int .u64 ad,.int .i64 sz,.int .u64 x,.int .i64 k6,.int .i64 k7,.int .i64 k8,.int .i64 k9] 59)).alloc (.cells #[.int .i64 0,.int .u64 0,.int .i64 0,.int .u64 0,.int .i64 0,.bool false] 39))/\Blk ((W.alloc (.cells #[.int .i64 4,.int .i64 k1,.int .i64 k2,.bool k3,.bool k4,.bool k5,.int .u64 ad,.int .i64 sz,.int .u64 x,.int .i64 k6,.int .i64 k7,.int .i64 k8,.int .i64 k9] 59)).alloc (.cells #[.int .i64 0,.int .u64 0,.int .i64 0,.int .u64 0,.int .i64 0,.bool false] 39)) W.heap.size [.int .i64 4,.int .i64 k1,.int .i64 k2,.bool k3,.bool k4,.bool k5,.int .u64 ad,.int .i64 sz,.int .u64 x,.int .i64 k6,.int .i64 k7,.int .i64 k8,.int .i64 k9] 59/\Blk ((W.alloc (.cells #[.int .i64 4,.int .i64 k1,.int .i64 k2,.bool k3,.bool k4,.bool k5,.int .u64 ad,.int .i64 sz,.int .u64 x,.int .i64 k6,.int .i64 k7,.int .i64 k8,.int .i64 k9] 59)).alloc (.cells #[.int .i64 0,.int .u64 0,.int .i64 0,.int .u64 0,.int .i64 0,.bool false] 39)) (W.heap.size+1) [.int .i64 0,.int .u64 0,.int .i64 0,.int .u64 0,.int .i64 0,.bool false] 39):=by
  have b1:Below (W.alloc (.cells #[.int .i64 4,.int .i64 k1,.int .i64 k2,.bool k3,.bool k4,.bool k5,.int .u64 ad,.int .i64 sz,.int .u64 x,.int .i64 k6,.int .i64 k7,.int .i64 k8,.int .i64 k9] 59)).heap.size (W.alloc (.cells #[.int .i64 4,.int .i64 k1,.int .i64 k2,.bool k3,.bool k4,.bool k5,.int .u64 ad,.int .i64 sz,.int .u64 x,.int .i64 k6,.int .i64 k7,.int .i64 k8,.int .i64 k9] 59)) ((W.alloc (.cells #[.int .i64 4,.int .i64 k1,.int .i64 k2,.bool k3,.bool k4,.bool k5,.int .u64 ad,.int .i64 sz,.int .u64 x,.int .i64 k6,.int .i64 k7,.int .i64 k8,.int .i64 k9] 59)).alloc (.cells #[.int .i64 0,.int .u64 0,.int .i64 0,.int .u64 0,.int .i64 0,.bool false] 39)):=Go.Joins.below_alloc1 _ _
  refine ⟨below_then (Go.Joins.below_alloc1 _ _) b1,(Blk.made _ _ _).below b1,?_⟩
  rw [<- s1];exact Blk.made _ _ _
 clear h s1 hY
 go_enter Tryz.func14,Tryz.ntmps14
 go_upto_region 1 with fail
 generalize ((W.alloc (.cells #[.int .i64 4,.int .i64 k1,.int .i64 k2,.bool k3,.bool k4,.bool k5,.int .u64 ad,.int .i64 sz,.int .u64 x,.int .i64 k6,.int .i64 k7,.int .i64 k8,.int .i64 k9] 59)).alloc (.cells #[.int .i64 0,.int .u64 0,.int .i64 0,.int .u64 0,.int .i64 0,.bool false] 39))=V at G0 |-
 obtain ⟨b2,hb2⟩: ∃ b2,b2=W.heap.size+1:=⟨_,rfl⟩
 obtain ⟨b1,hb1⟩: ∃ b1,b1=W.heap.size:=⟨_,rfl⟩
 have G1:Hid (Below W.heap.size W V/\Blk V b1 [.int .i64 4,.int .i64 k1,.int .i64 k2,.bool k3,.bool k4,.bool k5,.int .u64 ad,.int .i64 sz,.int .u64 x,.int .i64 k6,.int .i64 k7,.int .i64 k8,.int .i64 k9] 59/\Blk V b2 [.int .i64 0,.int .u64 0,.int .i64 0,.int .u64 0,.int .i64 0,.bool false] 39):=by rw [hb2,hb1];exact G0.out
 have NB:Hid (W.heap.size<=b1/\W.heap.size<=b2/\b1≠b2):=⟨by omega,by omega,by omega⟩
 have OB:Hid (O b1=0/\O b2=0):=⟨Classical.byContradiction fun hh=>by have:=HM.out.lt b1 hh;omega,Classical.byContradiction fun hh=>by have:=HM.out.lt b2 hh;omega⟩
 rw [<- hb2,<- hb1]
 clear hb1 hb2 G0
 have x0:V.cell? ⟨b1,0,none⟩=some (.int .i64 4):=G1.out.2.1.cell 0
 go_upto_region 4 with fail
 clear x0
 have BS:Hid (Md V M.mb M.tq M.tb M.pm/\MapF V M.pm nn (fun i=>if i=0 then some M.pb else none)/\Blk V b1 [.int .i64 4,.int .i64 k1,.int .i64 k2,.bool k3,.bool k4,.bool k5,.int .u64 ad,.int .i64 sz,.int .u64 x,.int .i64 k6,.int .i64 k7,.int .i64 k8,.int .i64 k9] 59):=⟨(HM.out.below G1.out.1).mod,(HM.out.below G1.out.1).prm.mono hnn,G1.out.2.1⟩
 refine wp_region_noPanic ?_
 refine wp_region_held_drew (S:=fun cw=>Md cw M.mb M.tq M.tb M.pm/\MapF cw M.pm nn (fun i=>if i=0 then some M.pb else none)/\Blk cw b1 [.int .i64 4,.int .i64 k1,.int .i64 k2,.bool k3,.bool k4,.bool k5,.int .u64 ad,.int .i64 sz,.int .u64 x,.int .i64 k6,.int .i64 k7,.int .i64 k8,.int .i64 k9] 59) (by kernel_rfl) ?_ (fun hHeld=> ?_)
 . exact BS.out
 have KU:Hid (Below V.heap.size V V.drew):=below_drew (Below.refl _ _)
 clear BS
 generalize V.drew=U at hHeld KU |-
 refine tk 0 12 ?_ rfl (Or.inl ⟨by rfl,?_⟩) ?_
 rotate_left
 . intro w hSw;(try dsimp only at hSw);go_simp;(try with_reducible rfl)
 try simp only [Act.put,z1,z2,z3]
 refine tk 1 13 ?_ rfl (Or.inl ⟨by rfl,?_⟩) ?_
 rotate_left
 . intro w hSw;(try dsimp only at hSw);go_simp;(try with_reducible rfl)
 try simp only [Act.put,z1,z2,z3]
 refine tk 2 14 ?_ rfl (Or.inl ⟨by rfl,?_⟩) ?_
 rotate_left
 . intro w hSw;(try dsimp only at hSw);go_simp;(try with_reducible rfl)
 try simp only [Act.put,z1,z2,z3]
 refine tk 3 15 ?_ rfl (Or.inl ⟨by rfl,?_⟩) ?_
 rotate_left
 . intro w hSw;(try dsimp only at hSw);go_simp;(try with_reducible rfl)
 try simp only [Act.put,z1,z2,z3]
 refine tk 4 16 ((.map (some M.pm))) rfl (Or.inl ⟨by rfl,?_⟩) ?_
 . intro w hSw;(try dsimp only at hSw);have r:=hSw.1.2.2.1;(try go_simp);(try simp [*])
 try simp only [Act.put,z1,z2,z3]
 refine tk 5 17 ?_ rfl (Or.inl ⟨by rfl,?_⟩) ?_
 rotate_left
 . intro w hSw;(try dsimp only at hSw);go_simp;(try with_reducible rfl)
 try simp only [Act.put,z1,z2,z3]
 refine tk 6 18 ((.pointer (some ⟨M.pb,0,none⟩))) rfl (Or.inl ⟨by rfl,?_⟩) ?_
 . intro w hSw;(try dsimp only at hSw);have r:=PL.out w hSw.2.1;(try go_simp);(try simp [*])
 try simp only [Act.put,z1,z2,z3]
 refine tk 7 19 (.agg #[.int .i64 4,.int .i64 k1,.int .i64 k2,.bool k3,.bool k4,.bool k5,.int .u64 ad,.int .i64 sz,.int .u64 x,.int .i64 k6,.int .i64 k7,.int .i64 k8,.int .i64 k9]) rfl (Or.inl ⟨by rfl,?_⟩) ?_
 . intro w hSw;(try dsimp only at hSw);have r0:=Blk.cell hSw.2.2 0;have r1:=Blk.cell hSw.2.2 1;have r2:=Blk.cell hSw.2.2 2;have r3:=Blk.cell hSw.2.2 3;have r4:=Blk.cell hSw.2.2 4;have r5:=Blk.cell hSw.2.2 5;have r6:=Blk.cell hSw.2.2 6;have r7:=Blk.cell hSw.2.2 7;have r8:=Blk.cell hSw.2.2 8;have r9:=Blk.cell hSw.2.2 9;have r10:=Blk.cell hSw.2.2 10;have r11:=Blk.cell hSw.2.2 11;have r12:=Blk.cell hSw.2.2 12;(try go_simp);(try simp [*])
 try simp only [Act.put,z1,z2,z3]
 refine wpAnyH_ready (rs:=[8]) (by kernel_rfl) (by simp) ?_
 refine AllReadyH.cons (o:=⟨some 20,_,_,_,_,none⟩) rfl (fun K hK=> ?_) AllReadyH.nil
 go_simp
 go_wp2_with (go_at_call 26;refine Calls.mono (AC.out _ ((HM.out.below G1.out.1).below KU.out)) ?_;rintro e u1 ⟨rfl,hx⟩)
 have E1:Hid (Tx O V Y u1/\Blk u1 b2 [.int .i64 0,.int .u64 0,.int .i64 0,.int .u64 0,.int .i64 0,.bool false] 39):=by
  have hx2:=Tx.up KU.out hx
  obtain ⟨O1,_,_,_,k⟩:=hx
  exact ⟨hx2,k.blk (G1.out.2.2.below KU.out) OB.out.2⟩
 obtain ⟨O1,hy1,_,lt1,ko1⟩:=hx
 have S1:Hid (Md u1 M.mb M.tq M.tb M.pm/\MapF u1 M.pm nn (fun i=>if i=0 then some M.pb else none)/\Blk u1 b1 [.int .i64 4,.int .i64 k1,.int .i64 k2,.bool k3,.bool k4,.bool k5,.int .u64 ad,.int .i64 sz,.int .u64 x,.int .i64 k6,.int .i64 k7,.int .i64 k8,.int .i64 k9] 59):=⟨(YM.out _ _ hy1).1,(YM.out _ _ hy1).2,ko1.blk hHeld.2.2 OB.out.1⟩
 have NE:Hid (M.mb≠b2/\M.pm≠b2):=by
  have l1:=HM.out.lt M.mb (by rw [HM.out.o1];omega)
  have l4:=HM.out.lt M.pm (by rw [HM.out.o4];omega)
  have:=NB.out
  exact ⟨by omega,by omega⟩
 refine hK.out _ _ S1.out (fun hHeld2=> ?_)
 clear hK K hHeld hy1 lt1 ko1 S1 KU
 have hHeld:=hHeld2
 clear hHeld2
 try simp only [Act.put,z1,z2,z3]
 refine wpAnyH_ready (rs:=[9]) (by kernel_rfl) (by simp) ?_
 refine AllReadyH.cons (o:=⟨none,.store 39 (.tmp 6) (.tmp 20),_,_,_,none⟩) rfl (fun K hK=> ?_) AllReadyH.nil
 refine wanted_mp rfl ?_
 have th:u1.there b2 0 6:=E1.out.2.there
 refine wp_store_mid _ _ _ rfl b2 0 #[.int .i64 r0,.int .u64 r1,.int .i64 r2,.int .u64 r3,.int .i64 r4,.bool r5] rfl rfl th (by kernel_rfl) (by simp [Value.oneCell']) ?_
 (try simp only [List.toList_toArray])
 have gk:=grown_setCells b2 [.int .i64 r0,.int .u64 r1,.int .i64 r2,.int .u64 r3,.int .i64 r4,.bool r5] 0 u1
 have ne:=NE.out
 have F9:Hid (Blk (u1.setCells b2 0 [.int .i64 r0,.int .u64 r1,.int .i64 r2,.int .u64 r3,.int .i64 r4,.bool r5]) b2 [.int .i64 r0,.int .u64 r1,.int .i64 r2,.int .u64 r3,.int .i64 r4,.bool r5] 39):=E1.out.2.put rfl
 have S9:Hid (Md (u1.setCells b2 0 [.int .i64 r0,.int .u64 r1,.int .i64 r2,.int .u64 r3,.int .i64 r4,.bool r5]) M.mb M.tq M.tb M.pm/\MapF (u1.setCells b2 0 [.int .i64 r0,.int .u64 r1,.int .i64 r2,.int .u64 r3,.int .i64 r4,.bool r5]) M.pm nn (fun i=>if i=0 then some M.pb else none)/\Blk (u1.setCells b2 0 [.int .i64 r0,.int .u64 r1,.int .i64 r2,.int .u64 r3,.int .i64 r4,.bool r5]) b1 [.int .i64 4,.int .i64 k1,.int .i64 k2,.bool k3,.bool k4,.bool k5,.int .u64 ad,.int .i64 sz,.int .u64 x,.int .i64 k6,.int .i64 k7,.int .i64 k8,.int .i64 k9] 59):=⟨hHeld.1.block gk.size (gk.block _ hHeld.1.2.2.2 (fun e=>ne.1 (Option.some.inj e))),hHeld.2.1.block (gk.block _ hHeld.2.1.lt (fun e=>ne.2 (Option.some.inj e))),(gk.block _ hHeld.2.2.lt (fun e=>NB.out.2.2 (Option.some.inj e))).trans hHeld.2.2⟩
 have HE:Hid (Tx O W Y (u1.setCells b2 0 [.int .i64 r0,.int .u64 r1,.int .i64 r2,.int .u64 r3,.int .i64 r4,.bool r5])):=Tx.to SY.out G1.out.1 E1.out.1 NB.out.2.1 G1.out.2.2.lt OB.out.2 gk
 clear gk ne
 generalize u1.setCells b2 0 [.int .i64 r0,.int .u64 r1,.int .i64 r2,.int .u64 r3,.int .i64 r4,.bool r5]=u9 at *
 refine hK.out _ _ S9.out (fun hHeld2=> ?_)
 clear hK K hHeld th S9 E1
 have hHeld:=hHeld2
 clear hHeld2
 try simp only [Act.put,z1,z2,z3]
 clear hHeld
 refine wpAnyH_done (by kernel_rfl) ?_ _
 refine NoPanic.normal ?_
 have LV:(loadVar 39 ⟨b2,0,none⟩).run Tryz.prog u9=.ok (.agg #[.int .i64 r0,.int .u64 r1,.int .i64 r2,.int .u64 r3,.int .i64 r4,.bool r5]) u9:=run_loadVar_mid (P:=Tryz.prog) _ b2 0 39 [.int .i64 r0,.int .u64 r1,.int .i64 r2,.int .u64 r3,.int .i64 r4,.bool r5] _ F9.out.range Tryz.underlying39 rfl (by kernel_rfl)
 go_wp2_with fail
 refine bodyPost_ret (v:=.agg #[.int .i64 r0,.int .u64 r1,.int .i64 r2,.int .u64 r3,.int .i64 r4,.bool r5]) (results_one Tryz.results14 _ _ _ ⟨b2,0,none⟩ _ rfl LV) rfl ?_
 exact ⟨rfl,HE.out⟩
end Go.Proofs.YtlaiadheelgbdaaGreat.Fl
namespace Go.Proofs.YtlaiadheelgbdaaGreat.Fl
open Go.ChangeShapes Go.WideShapes Go.ChangeAt Go.RowKit Go.Maps
set_option linter.unusedSimpArgs false
set_option linter.unusedVariables false
set_option maxRecDepth 8000
set_option maxHeartbeats 4000000 in
theorem do_ok {O:Nat->Nat} {n:Nat} {W:World} {M:Fb} {Q:Ca.Qu} {T:Nat->Qo.Nd} {root:Int} {P:Fp} (h:Fm O n W M Q T root P) (hQ:Ca.nowV Q.L=0) (v0 v1 v2 v3 v4 v5:Int) (op:Int) (k1 k2:Int) (k3 k4 k5:Bool) (ad sz x k6 k7 k8 k9:Int) (r1 r2 r3 r4:Int) (r5:Bool) (Y:(Nat->Nat)->World->Prop) (hY:Sta Y)
 (hR: ∀ w,Calls Tryz.prog 13 #[.agg #[.int .u64 v0,.int .u64 v1,.int .u64 v2,.int .u64 v3,.int .u64 v4,.int .u64 v5]] w fun e w'=>e=.returned (.tuple #[.agg #[.int .i64 op,.int .i64 k1,.int .i64 k2,.bool k3,.bool k4,.bool k5,.int .u64 ad,.int .i64 sz,.int .u64 x,.int .i64 k6,.int .i64 k7,.int .i64 k8,.int .i64 k9],.int .i64 0])/\Below w.heap.size w w')
 (hS: ∀ w,Fm O n w M Q T root P->Calls Tryz.prog 14 #[pp M.mb,.int .i64 0,.agg #[.int .i64 op,.int .i64 k1,.int .i64 k2,.bool k3,.bool k4,.bool k5,.int .u64 ad,.int .i64 sz,.int .u64 x,.int .i64 k6,.int .i64 k7,.int .i64 k8,.int .i64 k9]] w fun e w'=>e=.returned (.agg #[.int .i64 0,.int .u64 r1,.int .i64 r2,.int .u64 r3,.int .i64 r4,.bool r5])/\Tx O w Y w') :
 Calls Tryz.prog 5 #[pp M.mb,.agg #[.int .u64 v0,.int .u64 v1,.int .u64 v2,.int .u64 v3,.int .u64 v4,.int .u64 v5]] W fun e w'=>e=.returned (.agg #[.int .i64 0,.int .u64 r1,.int .i64 r2,.int .u64 r3,.int .i64 r4,.bool r5])/\Tx O W Y w':=by
 have RC:Hid _:=hR
 have SC:Hid _:=hS
 have SY:Hid (Sta Y):=hY
 have HM:Hid (Fm O n W M Q T root P):=h
 have NC:Hid (∀ w:World,Below W.heap.size W w->Calls Tryz.prog 12 #[pp M.tq] w fun e w'=>e=.returned (.tuple #[.int .i64 0,.bool (Ca.nowB Q.L)])/\Below w.heap.size w w'):=fun w hb=>by
  have q:=Ca.now_any M.tq Q w (h.below hb).que
  rw [hQ] at q;exact q
 obtain ⟨nb,hnb⟩: ∃ nb,nb=Ca.nowB Q.L:=⟨_,rfl⟩
 rw [<- hnb] at NC
 clear h hR hS hY hQ hnb
 have s1:(W.alloc (.cells #[.int .u64 v0,.int .u64 v1,.int .u64 v2,.int .u64 v3,.int .u64 v4,.int .u64 v5] 24)).heap.size=W.heap.size+1:=World.size_alloc _ _
 have G0:Hid (Below W.heap.size W ((W.alloc (.cells #[.int .u64 v0,.int .u64 v1,.int .u64 v2,.int .u64 v3,.int .u64 v4,.int .u64 v5] 24)).alloc (.cells #[.int .i64 0,.int .u64 0,.int .i64 0,.int .u64 0,.int .i64 0,.bool false] 39))/\Blk ((W.alloc (.cells #[.int .u64 v0,.int .u64 v1,.int .u64 v2,.int .u64 v3,.int .u64 v4,.int .u64 v5] 24)).alloc (.cells #[.int .i64 0,.int .u64 0,.int .i64 0,.int .u64 0,.int .i64 0,.bool false] 39)) W.heap.size [.int .u64 v0,.int .u64 v1,.int .u64 v2,.int .u64 v3,.int .u64 v4,.int .u64 v5] 24/\Blk ((W.alloc (.cells #[.int .u64 v0,.int .u64 v1,.int .u64 v2,.int .u64 v3,.int .u64 v4,.int .u64 v5] 24)).alloc (.cells #[.int .i64 0,.int .u64 0,.int .i64 0,.int .u64 0,.int .i64 0,.bool false] 39)) (W.heap.size+1) [.int .i64 0,.int .u64 0,.int .i64 0,.int .u64 0,.int .i64 0,.bool false] 39):=by
  have b1:Below (W.alloc (.cells #[.int .u64 v0,.int .u64 v1,.int .u64 v2,.int .u64 v3,.int .u64 v4,.int .u64 v5] 24)).heap.size (W.alloc (.cells #[.int .u64 v0,.int .u64 v1,.int .u64 v2,.int .u64 v3,.int .u64 v4,.int .u64 v5] 24)) ((W.alloc (.cells #[.int .u64 v0,.int .u64 v1,.int .u64 v2,.int .u64 v3,.int .u64 v4,.int .u64 v5] 24)).alloc (.cells #[.int .i64 0,.int .u64 0,.int .i64 0,.int .u64 0,.int .i64 0,.bool false] 39)):=Go.Joins.below_alloc1 _ _
  refine ⟨below_then (Go.Joins.below_alloc1 _ _) b1,(Blk.made _ _ _).below b1,?_⟩
  rw [<- s1];exact Blk.made _ _ _
 clear s1
 go_enter Tryz.func5,Tryz.ntmps5
 go_upto_region 1 with fail
 generalize ((W.alloc (.cells #[.int .u64 v0,.int .u64 v1,.int .u64 v2,.int .u64 v3,.int .u64 v4,.int .u64 v5] 24)).alloc (.cells #[.int .i64 0,.int .u64 0,.int .i64 0,.int .u64 0,.int .i64 0,.bool false] 39))=V at G0 |-
 obtain ⟨b2,hb2⟩: ∃ b2,b2=W.heap.size+1:=⟨_,rfl⟩
 obtain ⟨b1,hb1⟩: ∃ b1,b1=W.heap.size:=⟨_,rfl⟩
 have G1:Hid (Below W.heap.size W V/\Blk V b1 [.int .u64 v0,.int .u64 v1,.int .u64 v2,.int .u64 v3,.int .u64 v4,.int .u64 v5] 24/\Blk V b2 [.int .i64 0,.int .u64 0,.int .i64 0,.int .u64 0,.int .i64 0,.bool false] 39):=by rw [hb2,hb1];exact G0.out
 have NB:Hid (W.heap.size<=b1/\W.heap.size<=b2/\b1≠b2):=⟨by omega,by omega,by omega⟩
 have OB:Hid (O b2=0):=Classical.byContradiction fun hh=>by have:=HM.out.lt b2 hh;omega
 rw [<- hb2,<- hb1]
 clear hb1 hb2 G0
 have BC:Hid _:=booted_yes M.mb M.tq V (HM.out.mod.below G1.out.1).1
 go_wp2_with fail
 refine Calls.mono BC.out ?_
 rintro e V' ⟨rfl,hu⟩
 have hu2:=hu.symm
 subst hu2
 clear hu BC
 have m0:V.cell? ⟨M.mb,0,none⟩=some (pp M.tq):=(HM.out.mod.below G1.out.1).1
 go_wp2_with fail
 refine Calls.mono (NC.out _ G1.out.1) ?_
 rintro e w2 ⟨rfl,hb2⟩
 have G2:Hid (Below W.heap.size W w2/\Blk w2 b1 [.int .u64 v0,.int .u64 v1,.int .u64 v2,.int .u64 v3,.int .u64 v4,.int .u64 v5] 24/\Blk w2 b2 [.int .i64 0,.int .u64 0,.int .i64 0,.int .u64 0,.int .i64 0,.bool false] 39):=⟨below_then G1.out.1 hb2,G1.out.2.1.below hb2,G1.out.2.2.below hb2⟩
 clear hb2 NC m0 G1
 have y0:w2.cell? ⟨b1,0,none⟩=some (.int .u64 v0):=G2.out.2.1.cell 0
 have y1:w2.cell? ⟨b1,1,none⟩=some (.int .u64 v1):=G2.out.2.1.cell 1
 have y2:w2.cell? ⟨b1,2,none⟩=some (.int .u64 v2):=G2.out.2.1.cell 2
 have y3:w2.cell? ⟨b1,3,none⟩=some (.int .u64 v3):=G2.out.2.1.cell 3
 have y4:w2.cell? ⟨b1,4,none⟩=some (.int .u64 v4):=G2.out.2.1.cell 4
 have y5:w2.cell? ⟨b1,5,none⟩=some (.int .u64 v5):=G2.out.2.1.cell 5
 go_wp2_with fail
 refine Calls.mono (RC.out _) ?_
 rintro e w3 ⟨rfl,hb3⟩
 have G4:Hid (Below W.heap.size W (w3.alloc (.cells #[.int .i64 op,.int .i64 k1,.int .i64 k2,.bool k3,.bool k4,.bool k5,.int .u64 ad,.int .i64 sz,.int .u64 x,.int .i64 k6,.int .i64 k7,.int .i64 k8,.int .i64 k9] 59))/\Blk (w3.alloc (.cells #[.int .i64 op,.int .i64 k1,.int .i64 k2,.bool k3,.bool k4,.bool k5,.int .u64 ad,.int .i64 sz,.int .u64 x,.int .i64 k6,.int .i64 k7,.int .i64 k8,.int .i64 k9] 59)) w3.heap.size [.int .i64 op,.int .i64 k1,.int .i64 k2,.bool k3,.bool k4,.bool k5,.int .u64 ad,.int .i64 sz,.int .u64 x,.int .i64 k6,.int .i64 k7,.int .i64 k8,.int .i64 k9] 59/\Blk (w3.alloc (.cells #[.int .i64 op,.int .i64 k1,.int .i64 k2,.bool k3,.bool k4,.bool k5,.int .u64 ad,.int .i64 sz,.int .u64 x,.int .i64 k6,.int .i64 k7,.int .i64 k8,.int .i64 k9] 59)) b2 [.int .i64 0,.int .u64 0,.int .i64 0,.int .u64 0,.int .i64 0,.bool false] 39):=by
  have bb:Below w3.heap.size w3 (w3.alloc (.cells #[.int .i64 op,.int .i64 k1,.int .i64 k2,.bool k3,.bool k4,.bool k5,.int .u64 ad,.int .i64 sz,.int .u64 x,.int .i64 k6,.int .i64 k7,.int .i64 k8,.int .i64 k9] 59)):=Go.Joins.below_alloc1 _ _
  exact ⟨below_then (below_then G2.out.1 hb3) bb,Blk.made _ _ _,(G2.out.2.2.below hb3).below bb⟩
 clear hb3 RC y0 y1 y2 y3 y4 y5 G2
 go_upto_region 5 with fail
 generalize (w3.alloc (.cells #[.int .i64 op,.int .i64 k1,.int .i64 k2,.bool k3,.bool k4,.bool k5,.int .u64 ad,.int .i64 sz,.int .u64 x,.int .i64 k6,.int .i64 k7,.int .i64 k8,.int .i64 k9] 59))=V4 at G4 |-
 obtain ⟨b3,hb3⟩: ∃ b3,b3=w3.heap.size:=⟨_,rfl⟩
 have G5:Hid (Below W.heap.size W V4/\Blk V4 b3 [.int .i64 op,.int .i64 k1,.int .i64 k2,.bool k3,.bool k4,.bool k5,.int .u64 ad,.int .i64 sz,.int .u64 x,.int .i64 k6,.int .i64 k7,.int .i64 k8,.int .i64 k9] 59/\Blk V4 b2 [.int .i64 0,.int .u64 0,.int .i64 0,.int .u64 0,.int .i64 0,.bool false] 39):=by rw [hb3];exact G4.out
 rw [<- hb3]
 clear hb3 G4
 have x0:V4.cell? ⟨b3,0,none⟩=some (.int .i64 op):=G5.out.2.1.cell 0
 have x1:V4.cell? ⟨b3,1,none⟩=some (.int .i64 k1):=G5.out.2.1.cell 1
 have x2:V4.cell? ⟨b3,2,none⟩=some (.int .i64 k2):=G5.out.2.1.cell 2
 have x3:V4.cell? ⟨b3,3,none⟩=some (.bool k3):=G5.out.2.1.cell 3
 have x4:V4.cell? ⟨b3,4,none⟩=some (.bool k4):=G5.out.2.1.cell 4
 have x5:V4.cell? ⟨b3,5,none⟩=some (.bool k5):=G5.out.2.1.cell 5
 have x6:V4.cell? ⟨b3,6,none⟩=some (.int .u64 ad):=G5.out.2.1.cell 6
 have x7:V4.cell? ⟨b3,7,none⟩=some (.int .i64 sz):=G5.out.2.1.cell 7
 have x8:V4.cell? ⟨b3,8,none⟩=some (.int .u64 x):=G5.out.2.1.cell 8
 have x9:V4.cell? ⟨b3,9,none⟩=some (.int .i64 k6):=G5.out.2.1.cell 9
 have x10:V4.cell? ⟨b3,10,none⟩=some (.int .i64 k7):=G5.out.2.1.cell 10
 have x11:V4.cell? ⟨b3,11,none⟩=some (.int .i64 k8):=G5.out.2.1.cell 11
 have x12:V4.cell? ⟨b3,12,none⟩=some (.int .i64 k9):=G5.out.2.1.cell 12
 go_wp2_with fail
 refine Calls.mono (SC.out _ (HM.out.below G5.out.1)) ?_
 rintro e w5 ⟨rfl,hx⟩
 have G6:Hid (Tx O V4 Y w5/\Blk (w5.alloc (.cells #[.int .i64 0,.int .u64 r1,.int .i64 r2,.int .u64 r3,.int .i64 r4,.bool r5] 39)) w5.heap.size [.int .i64 0,.int .u64 r1,.int .i64 r2,.int .u64 r3,.int .i64 r4,.bool r5] 39/\Blk (w5.alloc (.cells #[.int .i64 0,.int .u64 r1,.int .i64 r2,.int .u64 r3,.int .i64 r4,.bool r5] 39)) b2 [.int .i64 0,.int .u64 0,.int .i64 0,.int .u64 0,.int .i64 0,.bool false] 39/\Below w5.heap.size w5 (w5.alloc (.cells #[.int .i64 0,.int .u64 r1,.int .i64 r2,.int .u64 r3,.int .i64 r4,.bool r5] 39))/\b2<w5.heap.size):=by
  have bb:Below w5.heap.size w5 (w5.alloc (.cells #[.int .i64 0,.int .u64 r1,.int .i64 r2,.int .u64 r3,.int .i64 r4,.bool r5] 39)):=Go.Joins.below_alloc1 _ _
  have kb:Blk w5 b2 [.int .i64 0,.int .u64 0,.int .i64 0,.int .u64 0,.int .i64 0,.bool false] 39:=by
   obtain ⟨O1,_,_,_,k⟩:=hx
   exact k.blk G5.out.2.2 OB.out
  exact ⟨hx,Blk.made _ _ _,kb.below bb,bb,kb.lt⟩
 clear hx SC x0 x1 x2 x3 x4 x5 x6 x7 x8 x9 x10 x11 x12
 go_upto_region 8 with fail
 generalize (w5.alloc (.cells #[.int .i64 0,.int .u64 r1,.int .i64 r2,.int .u64 r3,.int .i64 r4,.bool r5] 39))=V6 at G6 |-
 obtain ⟨b4,hb4⟩: ∃ b4,b4=w5.heap.size:=⟨_,rfl⟩
 have G7:Hid (Tx O V4 Y w5/\Blk V6 b4 [.int .i64 0,.int .u64 r1,.int .i64 r2,.int .u64 r3,.int .i64 r4,.bool r5] 39/\Blk V6 b2 [.int .i64 0,.int .u64 0,.int .i64 0,.int .u64 0,.int .i64 0,.bool false] 39/\Below w5.heap.size w5 V6/\(w5.heap.size<=b4/\b2≠b4)):=by
  have l:=G6.out.2.2.2.2
  rw [hb4];exact ⟨G6.out.1,G6.out.2.1,G6.out.2.2.1,G6.out.2.2.2.1,by omega,by omega⟩
 rw [<- hb4]
 clear hb4 G6
 have z0:V6.cell? ⟨b4,0,none⟩=some (.int .i64 0):=G7.out.2.1.cell 0
 have zf:V6.frozen? ⟨b4,0,none⟩=false:=G7.out.2.1.free 0
 have G8:Hid (Blk (V6.setCell ⟨b4,0,none⟩ (.int .i64 0)) b4 [.int .i64 0,.int .u64 r1,.int .i64 r2,.int .u64 r3,.int .i64 r4,.bool r5] 39/\Blk (V6.setCell ⟨b4,0,none⟩ (.int .i64 0)) b2 [.int .i64 0,.int .u64 0,.int .i64 0,.int .u64 0,.int .i64 0,.bool false] 39/\V6.grownBy (V6.setCell ⟨b4,0,none⟩ (.int .i64 0)) (some b4)):=by
  have gk:=grown_setCell1 V6 b4 0 (.int .i64 0)
  exact ⟨G7.out.2.1.set 0 _,(gk.block _ G7.out.2.2.1.lt (fun e=>G7.out.2.2.2.2.2 (Option.some.inj e))).trans G7.out.2.2.1,gk⟩
 go_upto_region 9 with fail
 generalize V6.setCell ⟨b4,0,none⟩ (.int .i64 0)=V7 at G8 |-
 clear z0 zf
 have y0:V7.cell? ⟨b4,0,none⟩=some (.int .i64 0):=G8.out.1.cell 0
 have y1:V7.cell? ⟨b4,1,none⟩=some (.int .u64 r1):=G8.out.1.cell 1
 have y2:V7.cell? ⟨b4,2,none⟩=some (.int .i64 r2):=G8.out.1.cell 2
 have y3:V7.cell? ⟨b4,3,none⟩=some (.int .u64 r3):=G8.out.1.cell 3
 have y4:V7.cell? ⟨b4,4,none⟩=some (.int .i64 r4):=G8.out.1.cell 4
 have y5:V7.cell? ⟨b4,5,none⟩=some (.bool r5):=G8.out.1.cell 5
 have B2:=G8.out.2.1
 have q0:V7.cell? ⟨b2,0,none⟩=some (.int .i64 0):=B2.cell 0
 have f0:V7.frozen? ⟨b2,0,none⟩=false:=B2.free 0
 have q1:V7.cell? ⟨b2,1,none⟩=some (.int .u64 0):=B2.cell 1
 have f1:V7.frozen? ⟨b2,1,none⟩=false:=B2.free 1
 have q2:V7.cell? ⟨b2,2,none⟩=some (.int .i64 0):=B2.cell 2
 have f2:V7.frozen? ⟨b2,2,none⟩=false:=B2.free 2
 have q3:V7.cell? ⟨b2,3,none⟩=some (.int .u64 0):=B2.cell 3
 have f3:V7.frozen? ⟨b2,3,none⟩=false:=B2.free 3
 have q4:V7.cell? ⟨b2,4,none⟩=some (.int .i64 0):=B2.cell 4
 have f4:V7.frozen? ⟨b2,4,none⟩=false:=B2.free 4
 have q5:V7.cell? ⟨b2,5,none⟩=some (.bool false):=B2.cell 5
 have f5:V7.frozen? ⟨b2,5,none⟩=false:=B2.free 5
 clear B2
 go_wp2_with fail
 have RG:(World.setCells V7 b2 0 [.int .i64 0,.int .u64 r1,.int .i64 r2,.int .u64 r3,.int .i64 r4,.bool r5]).rangeAt b2 0 [.int .i64 0,.int .u64 r1,.int .i64 r2,.int .u64 r3,.int .i64 r4,.bool r5]:=(Blk.put (cs:=[.int .i64 0,.int .u64 r1,.int .i64 r2,.int .u64 r3,.int .i64 r4,.bool r5]) G8.out.2.1 rfl).range
 have LV:(loadVar 39 ⟨b2,0,none⟩).run Tryz.prog (World.setCells V7 b2 0 [.int .i64 0,.int .u64 r1,.int .i64 r2,.int .u64 r3,.int .i64 r4,.bool r5])=.ok (.agg #[.int .i64 0,.int .u64 r1,.int .i64 r2,.int .u64 r3,.int .i64 r4,.bool r5]) (World.setCells V7 b2 0 [.int .i64 0,.int .u64 r1,.int .i64 r2,.int .u64 r3,.int .i64 r4,.bool r5]):=run_loadVar_mid (P:=Tryz.prog) _ b2 0 39 [.int .i64 0,.int .u64 r1,.int .i64 r2,.int .u64 r3,.int .i64 r4,.bool r5] _ RG Tryz.underlying39 rfl (by kernel_rfl)
 change bodyPost _ _ _ _ _ (World.setCells V7 b2 0 [.int .i64 0,.int .u64 r1,.int .i64 r2,.int .u64 r3,.int .i64 r4,.bool r5])
 refine bodyPost_ret (v:=.agg #[.int .i64 0,.int .u64 r1,.int .i64 r2,.int .u64 r3,.int .i64 r4,.bool r5]) (results_one Tryz.results5 _ _ _ ⟨b2,0,none⟩ _ rfl LV) rfl ?_
 refine ⟨rfl,Tx.to SY.out G5.out.1 G7.out.1 NB.out.2.1 G5.out.2.2.lt OB.out ?_⟩
 have g1:=G7.out.2.2.2.1
 have g2:=G8.out.2.2
 have g3:=grown_setCells b2 [.int .i64 0,.int .u64 r1,.int .i64 r2,.int .u64 r3,.int .i64 r4,.bool r5] 0 V7
 refine ⟨g3.os.trans (g2.os.trans g1.os),g3.tape.trans (g2.tape.trans g1.tape),g3.output.trans (g2.output.trans g1.output),Nat.le_trans g1.size (Nat.le_trans g2.size g3.size),fun j hj hne=> ?_⟩
 have l6:j<V6.heap.size:=Nat.lt_of_lt_of_le hj g1.size
 rw [g3.block j (Nat.lt_of_lt_of_le l6 g2.size) hne,g2.block j l6 (fun e=>by have:=Option.some.inj e;have:=G7.out.2.2.2.2.1;omega),g1.block j hj]
end Go.Proofs.YtlaiadheelgbdaaGreat.Fl
