import Derived.Test.YtmabmknmnkhhbaaGreatDoorKZl
import Derived.Test.YtmabmknmnkhhbaaGreatDoorG6l
import Derived.RegionTactic
import Derived.BigRegion
import Derived.Deep.DeepCutAuto
namespace Go.Proofs.YtmabmknmnkhhbaaGreatDoor.Re
open Go.ChangeShapes Go.WideShapes Go.ChangeAt Go.RowKit Go.Maps
set_option linter.unusedSimpArgs false
set_option linter.unusedVariables false
set_option maxRecDepth 8000
set_option maxHeartbeats 8000000 in
theorem change_cut (p:Option Addr) (c:Nat) (L:List Rg) (hL:L.length<=100) (qf qt:Int) (w:World) (h:LowL w w.heap.size p L) :
 Calls Tryz.prog 113 #[.slice p L.length c,rgV qf qt,.func (.func 114) #[] #[]] w fun e w'=> ∃ v er,e=.returned (.tuple #[v,.int .i64 er])/\Res w' w.heap.size v er (chg (fun _=>Rg.zero) qf qt L)/\Below w.heap.size w w':=by
 have HI:Hid (LowL w (w.heap.size+1) p L):=h.weak (by omega)
 have CM:Hid (∀ (a1 a2:Int) (W:World),Calls Tryz.prog 139 #[rgV a1 a2,rgV qf qt] W fun e w'=>e=.returned (rgV (max a1 qf) (min a2 qt))/\Below W.heap.size W w'):=fun a1 a2 W=>common_any a1 a2 qf qt W
 have WI:Hid (∀ (base:Nat) (v:Value) (M:List Rg),M.length<=1000-> ∀ (r:Rg) (W:World),base<=W.heap.size->OwnL W base v M->Calls Tryz.prog 102 #[v,r.val] W fun e w'=> ∃ v',e=.returned v'/\OwnL w' base v' (withL M r)/\WithK W w' v v'):=fun base v M hM r W hW ho=>with_any base v M hM r W hW ho
 have FY:Hid (∀ (q:Option Addr) (n d:Nat),n<=64-> ∀ W:World,Calls Tryz.prog 103 #[.slice q n d] W fun e w'=>e=.returned (.tuple #[.slice q n d,.int .i64 0])/\Below W.heap.size W w'):=fun q n d hn W=>few_yes q n d hn W
 have FN:Hid (∀ (q:Option Addr) (n d:Nat),64<n->n<=1000-> ∀ W:World,Calls Tryz.prog 103 #[.slice q n d] W fun e w'=>e=.returned (.tuple #[.slice none 0 0,.int .i64 4])/\Below W.heap.size W w'):=fun q n d hn hm W=>few_no q n d hn hm W
 have CL:Hid (∀ (r:Rg) (W:World),True->Calls Tryz.prog 114 #[r.val] W fun e w'=>e=.returned Rg.zero.val/\Below W.heap.size W w'):=fun r W _=>cut_cl r W
 have HK:Hid (∀ W:World,Below (w.heap.size+1) (w.alloc (.cells #[.int .i64 qf,.int .i64 qt] 23)) W->True):=fun _ _=>trivial
 have w0:Hid (LowL (w.alloc (.cells #[.int .i64 qf,.int .i64 qt] 23)) (w.heap.size+1) p L):=(h.low (Go.Joins.below_alloc1 _ _)).weak (by omega)
 clear h HI
 obtain ⟨W0,hW0⟩: ∃ W0,w.alloc (.cells #[.int .i64 qf,.int .i64 qt] 23)=W0:=⟨_,rfl⟩
 rw [hW0] at w0 HK
 have Z0:Hid (W0.heap.size=w.heap.size+1/\Below w.heap.size w W0/\W0.cell? ⟨w.heap.size,0,none⟩=some (.int .i64 qf)/\W0.cell? ⟨w.heap.size,1,none⟩=some (.int .i64 qt)):=by
  show _/\_/\_/\_
  rw [<- hW0]
  exact ⟨by rw [World.size_alloc],Go.Joins.below_alloc1 _ _,by simp,by simp⟩
 have HW0:Hid (w.alloc (.cells #[.int .i64 qf,.int .i64 qt] 23)=W0):=hW0
 clear hW0
 go_enter Tryz.func113,Tryz.ntmps113
 go_wp2_with fail
 go_loopw [8,16] (fun v x W=> ∃ m:Nat,m<=L.length/\x=.int .i64 m/\Hid (OwnL W (w.heap.size+1) v (chg (fun _=>Rg.zero) qf qt (L.take m)))/\Hid (Below (w.heap.size+1) W0 W)) (fun _ x _=>L.length-(intOf x).toNat)
 case atStart=>exact ⟨0,by omega,rfl,⟨by simp [chg],Or.inl ⟨rfl,rfl⟩⟩,by rw [HW0.out];exact Below.refl _ _⟩
 case round =>
  obtain ⟨m,hm,rfl,hO,hB⟩:=hrel
  by_cases hlm:m<L.length
  . have hd:decide ((m:Int)<(L.length:Int))=true:=by simp;omega
    obtain ⟨gl,rfl,gl1,gc⟩:=(w0.out.low hB.out) m hlm
    have NX:Hid (chg (fun _=>Rg.zero) qf qt (L.take (m+1))=part (fun _=>Rg.zero) qf qt (chg (fun _=>Rg.zero) qf qt (L.take m)) (L.getD m Rg.zero)):=chg_next _ qf qt L m hlm
    have LN:Hid ((chg (fun _=>Rg.zero) qf qt (L.take m)).length<=300):=Nat.le_trans (chg_len _ qf qt L m hm) (by omega)
    generalize L.getD m Rg.zero=rr at gc NX
    generalize chg (fun _=>Rg.zero) qf qt (L.take m)=M at hO NX LN
    obtain ⟨r1,r2,r3,r4,r5,r6⟩:=rr
    have y0:wr.cell? ⟨gl,m*6,none⟩=some (.int .i64 r1):=gc 0 _ rfl
    have y1:wr.cell? ⟨gl,m*6+1,none⟩=some (.int .i64 r2):=gc 1 _ rfl
    have y2:wr.cell? ⟨gl,m*6+2,none⟩=some (.bool r3):=gc 2 _ rfl
    have y3:wr.cell? ⟨gl,m*6+3,none⟩=some (.bool r4):=gc 3 _ rfl
    have y4:wr.cell? ⟨gl,m*6+4,none⟩=some (.bool r5):=gc 4 _ rfl
    have y5:wr.cell? ⟨gl,m*6+5,none⟩=some (.int .i64 r6):=gc 5 _ rfl
    clear gc
    have CR:Hid _:=CM.out r1 r2
    unfold part Rg.mid Rg.from Rg.upto at NX
    simp only at NX
    obtain ⟨am,ham⟩: ∃ x,min r2 qf=x:=⟨_,rfl⟩
    obtain ⟨mf,hmf⟩: ∃ x,max r1 qf=x:=⟨_,rfl⟩
    obtain ⟨mt,hmt⟩: ∃ x,min r2 qt=x:=⟨_,rfl⟩
    obtain ⟨bf,hbf⟩: ∃ x,max r1 qt=x:=⟨_,rfl⟩
    rw [ham,hbf] at NX
    rw [hmf,hmt] at CR
    have HAM:Hid (min r2 qf=am):=ham
    have HBF:Hid (max r1 qt=bf):=hbf
    clear ham hmf hmt hbf CM
    have b0:wr.cell? ⟨w.heap.size,0,none⟩=some (.int .i64 qf):=(hB.out.cell (p:=⟨w.heap.size,0,none⟩) (by show w.heap.size<_;omega)).trans Z0.out.2.2.1
    have b1:wr.cell? ⟨w.heap.size,1,none⟩=some (.int .i64 qt):=(hB.out.cell (p:=⟨w.heap.size,1,none⟩) (by show w.heap.size<_;omega)).trans Z0.out.2.2.2
    have lw:w.heap.size<wr.heap.size:=Nat.lt_of_lt_of_le (by rw [Z0.out.1];omega) hB.out.size
    have KF:Hid (wr.cell? ⟨w.heap.size,0,none⟩=some (.int .i64 qf)/\wr.cell? ⟨w.heap.size,1,none⟩=some (.int .i64 qt)):=⟨b0,b1⟩
    obtain ⟨s,hs⟩: ∃ s,wr.heap.size=s:=⟨_,rfl⟩
    have HS:Hid (wr.heap.size=s):=hs
    clear hs b0 b1
    go_upto_region 5 with fail
    go_cut [11,12,13] (fun a b d wx=> ∃ A B D:Nat,a=.pointer (some ⟨A,0,none⟩)/\b=.pointer (some ⟨B,0,none⟩)/\d=.pointer (some ⟨D,0,none⟩)/\(wr.heap.size<A/\wr.heap.size<B/\wr.heap.size<D/\A≠B/\A≠D/\B≠D)/\wx=((((wr.alloc (.cells #[.int .i64 r1,.int .i64 r2,.bool r3,.bool r4,.bool r5,.int .i64 r6] 135)).alloc (.cells #[.int .i64 r1,.int .i64 r2,.bool r3,.bool r4,.bool r5,.int .i64 r6] 135)).alloc (.cells #[.int .i64 r1,.int .i64 r2,.bool r3,.bool r4,.bool r5,.int .i64 r6] 135)).alloc (.cells #[.int .i64 r1,.int .i64 r2,.bool r3,.bool r4,.bool r5,.int .i64 r6] 135)).drew/\A<=wr.heap.size+3/\B<=wr.heap.size+3/\D<=wr.heap.size+3)
    case first =>
     go_region
     all_goals (try go_wp2_with fail)
     all_goals go_meet
     all_goals exact ⟨_,_,_,rfl,rfl,rfl,⟨by omega,by omega,by omega,by omega,by omega,by omega⟩,rfl,by omega,by omega,by omega⟩
    case rest =>
     obtain ⟨A,B,D,rfl,rfl,rfl,⟨lA,lB,lD,nAB,nAD,nBD⟩,ewc,hA3,hB3,hD3⟩:=hcut
     have FS:Hid (wc.heap[wr.heap.size]? =some (.cells #[.int .i64 r1,.int .i64 r2,.bool r3,.bool r4,.bool r5,.int .i64 r6] 135 (0,0))):=by show _=_;rw [ewc];exact four_block wr _ _ (by omega) (by omega)
     have FA:Hid (wc.heap[A]? =some (.cells #[.int .i64 r1,.int .i64 r2,.bool r3,.bool r4,.bool r5,.int .i64 r6] 135 (0,0))):=by show _=_;rw [ewc];exact four_block wr _ _ (by omega) (by omega)
     have FB:Hid (wc.heap[B]? =some (.cells #[.int .i64 r1,.int .i64 r2,.bool r3,.bool r4,.bool r5,.int .i64 r6] 135 (0,0))):=by show _=_;rw [ewc];exact four_block wr _ _ (by omega) (by omega)
     have FD:Hid (wc.heap[D]? =some (.cells #[.int .i64 r1,.int .i64 r2,.bool r3,.bool r4,.bool r5,.int .i64 r6] 135 (0,0))):=by show _=_;rw [ewc];exact four_block wr _ _ (by omega) (by omega)
     have BW:Hid (Below wr.heap.size wr wc):=by show Below _ _ _;rw [ewc];exact below_drew (below_new (Go.Joins.below_alloc3 _ _ _ _) _)
     clear ewc hA3 hB3 hD3
     have s0:wc.cell? ⟨wr.heap.size,0,none⟩=some (.int .i64 r1):=Go.Joins.cell_of_block FS.out 0
     have s1:wc.cell? ⟨wr.heap.size,1,none⟩=some (.int .i64 r2):=Go.Joins.cell_of_block FS.out 1
     have a1:wc.cell? ⟨A,1,none⟩=some (.int .i64 r2):=Go.Joins.cell_of_block FA.out 1
     have fa:wc.frozen? ⟨A,1,none⟩=false:=Go.Joins.unfrozen_of_block FA.out 1
     have p0:wc.cell? ⟨w.heap.size,0,none⟩=some (.int .i64 qf):=(BW.out.cell (p:=⟨w.heap.size,0,none⟩) lw).trans KF.out.1
     have p1:wc.cell? ⟨w.heap.size,1,none⟩=some (.int .i64 qt):=(BW.out.cell (p:=⟨w.heap.size,1,none⟩) lw).trans KF.out.2
     clear y0 y1 y2 y3 y4 y5
     go_wp2_with (refine min_pat (x:=.tmp 25) (y:=.tmp 27) r2 qf am HAM.out rfl rfl ?_)
     refine (CR.out _).mono ?_
     rintro e u1 ⟨rfl,hb1⟩
     have zs:=(grown_setCell1 wc A 1 (.int .i64 am)).size
     have GA:Hid (u1.heap[A]? =some (.cells #[.int .i64 r1,.int .i64 am,.bool r3,.bool r4,.bool r5,.int .i64 r6] 135 (0,0))):=(hb1.block A (Nat.lt_of_lt_of_le (blk_lt FA.out) zs)).trans (set_same FA.out rfl)
     have GB:Hid (u1.heap[B]? =some (.cells #[.int .i64 r1,.int .i64 r2,.bool r3,.bool r4,.bool r5,.int .i64 r6] 135 (0,0))):=(hb1.block B (Nat.lt_of_lt_of_le (blk_lt FB.out) zs)).trans ((set_block (by omega)).trans FB.out)
     have GD:Hid (u1.heap[D]? =some (.cells #[.int .i64 r1,.int .i64 r2,.bool r3,.bool r4,.bool r5,.int .i64 r6] 135 (0,0))):=(hb1.block D (Nat.lt_of_lt_of_le (blk_lt FD.out) zs)).trans ((set_block (by omega)).trans FD.out)
     have GS:Hid (u1.heap[wr.heap.size]? =some (.cells #[.int .i64 r1,.int .i64 r2,.bool r3,.bool r4,.bool r5,.int .i64 r6] 135 (0,0))):=(hb1.block _ (Nat.lt_of_lt_of_le (blk_lt FS.out) zs)).trans ((set_block (by omega)).trans FS.out)
     have BU:Hid (Below wr.heap.size wr u1):=below_then (BW.out.setCell (p:=⟨A,1,none⟩) (Nat.le_of_lt lA) _) hb1
     clear hb1 zs s0 s1 a1 fa p0 p1 FS FA FB FD BW
     have s0:u1.cell? ⟨wr.heap.size,0,none⟩=some (.int .i64 r1):=Go.Joins.cell_of_block GS.out 0
     have e0:u1.cell? ⟨B,0,none⟩=some (.int .i64 r1):=Go.Joins.cell_of_block GB.out 0
     have e1:u1.cell? ⟨B,1,none⟩=some (.int .i64 r2):=Go.Joins.cell_of_block GB.out 1
     have f0:u1.frozen? ⟨B,0,none⟩=false:=Go.Joins.unfrozen_of_block GB.out 0
     have f1:u1.frozen? ⟨B,1,none⟩=false:=Go.Joins.unfrozen_of_block GB.out 1
     have d0:u1.cell? ⟨D,0,none⟩=some (.int .i64 r1):=Go.Joins.cell_of_block GD.out 0
     have k0:u1.frozen? ⟨D,0,none⟩=false:=Go.Joins.unfrozen_of_block GD.out 0
     have p1:u1.cell? ⟨w.heap.size,1,none⟩=some (.int .i64 qt):=(BU.out.cell (p:=⟨w.heap.size,1,none⟩) lw).trans KF.out.2
     go_wp2_with (refine max_pat (x:=.tmp 38) (y:=.tmp 40) r1 qt bf HBF.out rfl rfl ?_)
     obtain ⟨X,hX⟩: ∃ X,((u1.setCell ⟨B,0,none⟩ (.int .i64 mf)).setCell ⟨B,1,none⟩ (.int .i64 mt)).setCell ⟨D,0,none⟩ (.int .i64 bf)=X:=⟨_,rfl⟩
     have XA:Hid (X.heap[A]? =some (.cells #[.int .i64 r1,.int .i64 am,.bool r3,.bool r4,.bool r5,.int .i64 r6] 135 (0,0))):=by show _=_;rw [<- hX,set_block (by omega),set_block (by omega),set_block (by omega)];exact GA.out
     have XB:Hid (X.heap[B]? =some (.cells #[.int .i64 mf,.int .i64 mt,.bool r3,.bool r4,.bool r5,.int .i64 r6] 135 (0,0))):=by show _=_;rw [<- hX,set_block (by omega)];exact set_same (set_same GB.out rfl) rfl
     have XD:Hid (X.heap[D]? =some (.cells #[.int .i64 bf,.int .i64 r2,.bool r3,.bool r4,.bool r5,.int .i64 r6] 135 (0,0))):=by show _=_;rw [<- hX];exact set_same ((set_block (by omega)).trans ((set_block (by omega)).trans GD.out)) rfl
     have BX:Hid (Below wr.heap.size wr X):=by show Below _ _ _;rw [<- hX];exact ((BU.out.setCell (p:=⟨B,0,none⟩) (Nat.le_of_lt lB) _).setCell (p:=⟨B,1,none⟩) (Nat.le_of_lt lB) _).setCell (p:=⟨D,0,none⟩) (Nat.le_of_lt lD) _
     rw [hX]
     clear hX GA GB GD GS BU s0 e0 e1 f0 f1 d0 k0 p1
     have NA:Hid (u8.ownBlock≠some A):=blk_ne (c:=0) hO.out (Nat.le_of_lt lA)
     have NB:Hid (u8.ownBlock≠some B):=blk_ne (c:=0) hO.out (Nat.le_of_lt lB)
     have ND:Hid (u8.ownBlock≠some D):=blk_ne (c:=0) hO.out (Nat.le_of_lt lD)
     have OU:Hid (OwnL X.drew (w.heap.size+1) u8 M):=OwnL.below hO.out (below_drew BX.out)
     have BB:Hid (Below (w.heap.size+1) W0 X.drew):=hB.out.trans (Go.Joins.below_le (below_drew BX.out) (by omega))
     have lAX:A<X.drew.heap.size:=blk_lt XA.out
     have lBX:B<X.drew.heap.size:=blk_lt XB.out
     have lDX:D<X.drew.heap.size:=blk_lt XD.out
     refine wp_region_noPanic ?_
     refine wp_region_held_drew (S:=fun c=>c.heap[A]? =some (.cells #[.int .i64 r1,.int .i64 am,.bool r3,.bool r4,.bool r5,.int .i64 r6] 135 (0,0))/\c.heap[B]? =some (.cells #[.int .i64 mf,.int .i64 mt,.bool r3,.bool r4,.bool r5,.int .i64 r6] 135 (0,0))/\c.heap[D]? =some (.cells #[.int .i64 bf,.int .i64 r2,.bool r3,.bool r4,.bool r5,.int .i64 r6] 135 (0,0))) (by kernel_rfl) ?_ (fun hHeld=> ?_)
     . exact ⟨XA.out,XB.out,XD.out⟩
     refine tk 0 44 ?_ rfl (Or.inl ⟨by rfl,?_⟩) ?_
     rotate_left
     . intro w hSw;(try dsimp only at hSw);go_simp;(try with_reducible rfl)
     try simp only [Act.put,z1,z2,z3]
     refine tk 1 45 (.agg #[.int .i64 r1,.int .i64 am,.bool r3,.bool r4,.bool r5,.int .i64 r6]) rfl (Or.inl ⟨by rfl,?_⟩) ?_
     . intro w hSw;(try dsimp only at hSw);have q0:w.cell? ⟨A,0,none⟩=some (.int .i64 r1):=Go.Joins.cell_of_block hSw.1 0;have q1:w.cell? ⟨A,1,none⟩=some (.int .i64 am):=Go.Joins.cell_of_block hSw.1 1;have q2:w.cell? ⟨A,2,none⟩=some (.bool r3):=Go.Joins.cell_of_block hSw.1 2;have q3:w.cell? ⟨A,3,none⟩=some (.bool r4):=Go.Joins.cell_of_block hSw.1 3;have q4:w.cell? ⟨A,4,none⟩=some (.bool r5):=Go.Joins.cell_of_block hSw.1 4;have q5:w.cell? ⟨A,5,none⟩=some (.int .i64 r6):=Go.Joins.cell_of_block hSw.1 5;go_simp;(try simp)
     try simp only [Act.put,z1,z2,z3]
     refine tk 3 47 ?_ rfl (Or.inl ⟨by rfl,?_⟩) ?_
     rotate_left
     . intro w hSw;(try dsimp only at hSw);go_simp;(try with_reducible rfl)
     try simp only [Act.put,z1,z2,z3]
     refine tk 4 48 (.agg #[.int .i64 mf,.int .i64 mt,.bool r3,.bool r4,.bool r5,.int .i64 r6]) rfl (Or.inl ⟨by rfl,?_⟩) ?_
     . intro w hSw;(try dsimp only at hSw);have q0:w.cell? ⟨B,0,none⟩=some (.int .i64 mf):=Go.Joins.cell_of_block hSw.2.1 0;have q1:w.cell? ⟨B,1,none⟩=some (.int .i64 mt):=Go.Joins.cell_of_block hSw.2.1 1;have q2:w.cell? ⟨B,2,none⟩=some (.bool r3):=Go.Joins.cell_of_block hSw.2.1 2;have q3:w.cell? ⟨B,3,none⟩=some (.bool r4):=Go.Joins.cell_of_block hSw.2.1 3;have q4:w.cell? ⟨B,4,none⟩=some (.bool r5):=Go.Joins.cell_of_block hSw.2.1 4;have q5:w.cell? ⟨B,5,none⟩=some (.int .i64 r6):=Go.Joins.cell_of_block hSw.2.1 5;go_simp;(try simp)
     try simp only [Act.put,z1,z2,z3]
     refine tk 7 51 (.agg #[.int .i64 bf,.int .i64 r2,.bool r3,.bool r4,.bool r5,.int .i64 r6]) rfl (Or.inl ⟨by rfl,?_⟩) ?_
     . intro w hSw;(try dsimp only at hSw);have q0:w.cell? ⟨D,0,none⟩=some (.int .i64 bf):=Go.Joins.cell_of_block hSw.2.2 0;have q1:w.cell? ⟨D,1,none⟩=some (.int .i64 r2):=Go.Joins.cell_of_block hSw.2.2 1;have q2:w.cell? ⟨D,2,none⟩=some (.bool r3):=Go.Joins.cell_of_block hSw.2.2 2;have q3:w.cell? ⟨D,3,none⟩=some (.bool r4):=Go.Joins.cell_of_block hSw.2.2 3;have q4:w.cell? ⟨D,4,none⟩=some (.bool r5):=Go.Joins.cell_of_block hSw.2.2 4;have q5:w.cell? ⟨D,5,none⟩=some (.int .i64 r6):=Go.Joins.cell_of_block hSw.2.2 5;go_simp;(try simp)
     try simp only [Act.put,z1,z2,z3]
     clear XA XB XD BX hO hB
     generalize X.drew=U at OU BB lAX lBX lDX hHeld |-
     have LENS:Hid (M.length<=1000/\(withL M ⟨r1,am,r3,r4,r5,r6⟩).length<=1000/\(withL (withL M ⟨r1,am,r3,r4,r5,r6⟩) Rg.zero).length<=1000):=by
      have k1:=LN.out
      have k2:=withL_len M ⟨r1,am,r3,r4,r5,r6⟩
      have k3:=withL_len (withL M ⟨r1,am,r3,r4,r5,r6⟩) Rg.zero
      exact ⟨by omega,by omega,by omega⟩
     refine wpAnyH_ready (rs:=[2]) (by kernel_rfl) (by simp) ?_
     refine AllReadyH.cons (o:=⟨some 46,_,_,_,_,none⟩) rfl (fun K hK=> ?_) AllReadyH.nil
     go_simp
     go_wp2_with (go_at_call 102;refine (WI.out (w.heap.size+1) u8 M LENS.out.1 ⟨r1,am,r3,r4,r5,r6⟩ _ (by omega) OU.out).mono ?_;rintro e u2 ⟨v1,rfl,ho,hk⟩)
     have Ou2:Hid (OwnL u2 (w.heap.size+1) v1 (withL M ⟨r1,am,r3,r4,r5,r6⟩)):=ho
     have Bu2:Hid (Below (w.heap.size+1) W0 u2):=BB.out.trans (hk.below OU.out (by omega))
     have xAu2:=(hk.block A lAX NA.out).trans hHeld.1
     have NAu2:Hid (v1.ownBlock≠some A):=hk.ne A lAX NA.out
     have xBu2:=(hk.block B lBX NB.out).trans hHeld.2.1
     have NBu2:Hid (v1.ownBlock≠some B):=hk.ne B lBX NB.out
     have xDu2:=(hk.block D lDX ND.out).trans hHeld.2.2
     have NDu2:Hid (v1.ownBlock≠some D):=hk.ne D lDX ND.out
     have zs:=hk.1.size
     have lAY:A<u2.heap.size:=Nat.lt_of_lt_of_le lAX zs
     have lBY:B<u2.heap.size:=Nat.lt_of_lt_of_le lBX zs
     have lDY:D<u2.heap.size:=Nat.lt_of_lt_of_le lDX zs
     clear ho hk NA NB ND zs lAX lBX lDX OU BB
     have NA:Hid _:=NAu2.out
     have lAX:=lAY
     have NB:Hid _:=NBu2.out
     have lBX:=lBY
     have ND:Hid _:=NDu2.out
     have lDX:=lDY
     clear NAu2 lAY NBu2 lBY NDu2 lDY
     clear hHeld
     refine hK.out _ _ ⟨xAu2,xBu2,xDu2⟩ (fun hHeld=> ?_)
     clear hK K xAu2 xBu2 xDu2
     try simp only [Act.put,z1,z2,z3]
     refine wpAnyH_ready (rs:=[5]) (by kernel_rfl) (by simp) ?_
     refine AllReadyH.cons (o:=⟨some 49,_,_,_,_,none⟩) rfl (fun K hK=> ?_) AllReadyH.nil
     go_simp
     go_wp2_with (go_at_call 114;refine (CL.out ⟨mf,mt,r3,r4,r5,r6⟩ _ (HK.out _ Bu2.out)).mono ?_;rintro e u3 ⟨rfl,hb3⟩)
     have Ou3:Hid (OwnL u3 (w.heap.size+1) v1 (withL M ⟨r1,am,r3,r4,r5,r6⟩)):=OwnL.below Ou2.out hb3
     have Bu3:Hid (Below (w.heap.size+1) W0 u3):=Bu2.out.trans (Go.Joins.below_le hb3 (by omega))
     have xAu3:=(hb3.block A lAX).trans hHeld.1
     have xBu3:=(hb3.block B lBX).trans hHeld.2.1
     have xDu3:=(hb3.block D lDX).trans hHeld.2.2
     have zs:=hb3.size
     have lAY:A<u3.heap.size:=Nat.lt_of_lt_of_le lAX zs
     have lBY:B<u3.heap.size:=Nat.lt_of_lt_of_le lBX zs
     have lDY:D<u3.heap.size:=Nat.lt_of_lt_of_le lDX zs
     clear hb3 zs lAX lBX lDX Ou2 Bu2
     have lAX:=lAY
     have lBX:=lBY
     have lDX:=lDY
     clear lAY lBY lDY
     clear hHeld
     refine hK.out _ _ ⟨xAu3,xBu3,xDu3⟩ (fun hHeld=> ?_)
     clear hK K xAu3 xBu3 xDu3
     try simp only [Act.put,z1,z2,z3]
     refine wpAnyH_ready (rs:=[6]) (by kernel_rfl) (by simp) ?_
     refine AllReadyH.cons (o:=⟨some 50,_,_,_,_,none⟩) rfl (fun K hK=> ?_) AllReadyH.nil
     go_simp
     go_wp2_with (go_at_call 102;refine (WI.out (w.heap.size+1) v1 (withL M ⟨r1,am,r3,r4,r5,r6⟩) LENS.out.2.1 Rg.zero _ (by omega) Ou3.out).mono ?_;rintro e u4 ⟨v2,rfl,ho,hk⟩)
     have Ou4:Hid (OwnL u4 (w.heap.size+1) v2 (withL (withL M ⟨r1,am,r3,r4,r5,r6⟩) Rg.zero)):=ho
     have Bu4:Hid (Below (w.heap.size+1) W0 u4):=Bu3.out.trans (hk.below Ou3.out (by omega))
     have xAu4:=(hk.block A lAX NA.out).trans hHeld.1
     have NAu4:Hid (v2.ownBlock≠some A):=hk.ne A lAX NA.out
     have xBu4:=(hk.block B lBX NB.out).trans hHeld.2.1
     have NBu4:Hid (v2.ownBlock≠some B):=hk.ne B lBX NB.out
     have xDu4:=(hk.block D lDX ND.out).trans hHeld.2.2
     have NDu4:Hid (v2.ownBlock≠some D):=hk.ne D lDX ND.out
     have zs:=hk.1.size
     have lAY:A<u4.heap.size:=Nat.lt_of_lt_of_le lAX zs
     have lBY:B<u4.heap.size:=Nat.lt_of_lt_of_le lBX zs
     have lDY:D<u4.heap.size:=Nat.lt_of_lt_of_le lDX zs
     clear ho hk NA NB ND zs lAX lBX lDX Ou3 Bu3
     have NA:Hid _:=NAu4.out
     have lAX:=lAY
     have NB:Hid _:=NBu4.out
     have lBX:=lBY
     have ND:Hid _:=NDu4.out
     have lDX:=lDY
     clear NAu4 lAY NBu4 lBY NDu4 lDY
     clear hHeld
     refine hK.out _ _ ⟨xAu4,xBu4,xDu4⟩ (fun hHeld=> ?_)
     clear hK K xAu4 xBu4 xDu4
     try simp only [Act.put,z1,z2,z3]
     refine wpAnyH_ready (rs:=[8]) (by kernel_rfl) (by simp) ?_
     refine AllReadyH.cons (o:=⟨some 52,_,_,_,_,none⟩) rfl (fun K hK=> ?_) AllReadyH.nil
     go_simp
     go_wp2_with (go_at_call 102;refine (WI.out (w.heap.size+1) v2 (withL (withL M ⟨r1,am,r3,r4,r5,r6⟩) Rg.zero) LENS.out.2.2 ⟨bf,r2,r3,r4,r5,r6⟩ _ (by omega) Ou4.out).mono ?_;rintro e u5 ⟨v3,rfl,ho,hk⟩)
     have Ou5:Hid (OwnL u5 (w.heap.size+1) v3 (withL (withL (withL M ⟨r1,am,r3,r4,r5,r6⟩) Rg.zero) ⟨bf,r2,r3,r4,r5,r6⟩)):=ho
     have Bu5:Hid (Below (w.heap.size+1) W0 u5):=Bu4.out.trans (hk.below Ou4.out (by omega))
     have xAu5:=(hk.block A lAX NA.out).trans hHeld.1
     have NAu5:Hid (v3.ownBlock≠some A):=hk.ne A lAX NA.out
     have xBu5:=(hk.block B lBX NB.out).trans hHeld.2.1
     have NBu5:Hid (v3.ownBlock≠some B):=hk.ne B lBX NB.out
     have xDu5:=(hk.block D lDX ND.out).trans hHeld.2.2
     have NDu5:Hid (v3.ownBlock≠some D):=hk.ne D lDX ND.out
     have zs:=hk.1.size
     have lAY:A<u5.heap.size:=Nat.lt_of_lt_of_le lAX zs
     have lBY:B<u5.heap.size:=Nat.lt_of_lt_of_le lBX zs
     have lDY:D<u5.heap.size:=Nat.lt_of_lt_of_le lDX zs
     clear ho hk NA NB ND zs lAX lBX lDX Ou4 Bu4
     have NA:Hid _:=NAu5.out
     have lAX:=lAY
     have NB:Hid _:=NBu5.out
     have lBX:=lBY
     have ND:Hid _:=NDu5.out
     have lDX:=lDY
     clear NAu5 lAY NBu5 lBY NDu5 lDY
     clear hHeld
     refine hK.out _ _ ⟨xAu5,xBu5,xDu5⟩ (fun hHeld=> ?_)
     clear hK K xAu5 xBu5 xDu5
     try simp only [Act.put,z1,z2,z3]
     refine tk 9 8 ?_ rfl (Or.inl ⟨by rfl,?_⟩) ?_
     rotate_left
     . intro w hSw;(try dsimp only at hSw);go_simp;(try with_reducible rfl)
     try simp only [Act.put,z1,z2,z3]
     refine wpAnyH_done (by kernel_rfl) ?_ _
     refine NoPanic.normal ?_
     have N2:Hid (OwnL u5 (w.heap.size+1) v3 (chg (fun _=>Rg.zero) qf qt (L.take (m+1)))):=by show OwnL _ _ _ _;rw [NX.out];exact Ou5.out
     clear NX Ou5
     go_wp2_with fail
     go_roundw
     case rel=>exact ⟨m+1,by omega,by go_num,N2,Bu5⟩
     case measure=>simp [intOf];omega
  . obtain rfl:m=L.length:=by omega
    have O1:Hid (OwnL wr (w.heap.size+1) u8 (chg (fun _=>Rg.zero) qf qt L)):=by
     have:=hO.out
     rw [List.take_length] at this;exact this
    have LN:Hid ((chg (fun _=>Rg.zero) qf qt L).length<=300):=by
     have:=chg_len (fun _=>Rg.zero) qf qt L L.length (Nat.le_refl _)
     rw [List.take_length] at this;exact Nat.le_trans this (by omega)
    obtain ⟨q,d,ev,hq⟩:=own_read O1.out
    have BE:Hid (Below w.heap.size w wr):=Z0.out.2.1.trans (Go.Joins.below_le hB.out (by omega))
    obtain ⟨M,hM⟩: ∃ M,chg (fun _=>Rg.zero) qf qt L=M:=⟨_,rfl⟩
    rw [hM] at O1 LN ev
    have HM:Hid (chg (fun _=>Rg.zero) qf qt L=M):=hM
    clear hM
    clear hO hq
    obtain ⟨n,hn⟩: ∃ n,M.length=n:=⟨_,rfl⟩
    have HN:Hid (M.length=n):=hn
    rw [hn] at ev LN
    clear hn
    subst ev
    by_cases few:n<=64
    . go_wp2_with fail
      refine (FY.out _ _ _ few _).mono ?_
      rintro e u1 ⟨rfl,hb1⟩
      have B1:Hid (Below w.heap.size w u1):=below_then BE.out hb1
      have R1:Hid (Res u1 w.heap.size (.slice q n d) 0 M):=Or.inl ⟨by rw [HN.out];exact few,rfl,Go.Joins.ownsRow_le (OwnL.below O1.out hb1) (by omega)⟩
      clear hb1
      go_wp2_with fail
      go_returns
      exact ⟨.slice q n d,0,rfl,by rw [HM.out];exact R1.out,B1.out⟩
    . go_wp2_with fail
      refine (FN.out _ _ _ (by omega) (Nat.le_trans LN.out (by omega)) _).mono ?_
      rintro e u1 ⟨rfl,hb1⟩
      have B1:Hid (Below w.heap.size w u1):=below_then BE.out hb1
      have R1:Hid (Res u1 w.heap.size (.slice none 0 0) 4 M):=Or.inr ⟨by rw [HN.out];omega,rfl,rfl⟩
      clear hb1
      go_wp2_with fail
      go_returns
      exact ⟨.slice none 0 0,4,rfl,by rw [HM.out];exact R1.out,B1.out⟩
end Go.Proofs.YtmabmknmnkhhbaaGreatDoor.Re
