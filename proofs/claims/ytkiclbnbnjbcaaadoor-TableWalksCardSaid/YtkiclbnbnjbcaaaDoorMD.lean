import Derived.Test.YtkiclbnbnjbcaaaDoorKZ
import Derived.Test.YtkiclbnbnjbcaaaDoorMC
namespace Go.Proofs.YtkiclbnbnjbcaaaDoor.Tt
open Go.ChangeShapes Go.WideShapes Go.ChangeAt Go.RowKit Go.Maps
set_option linter.unusedSimpArgs false
set_option linter.unusedVariables false
set_option maxRecDepth 8000
abbrev zTB9a (x0 x1 x2 x3:Int) (x4:Value):Array Value:=#[.int .i64 x0,.int .i64 x1,.int .i64 x2,.int .i64 x3,x4]
abbrev zTB9b (x0 x1 x2 x3 x4 x5 x6 x7:Bool) (x8:Int):Array Value:=#[.bool x0,.bool x1,.bool x2,.bool x3,.bool x4,.bool x5,.bool x6,.bool x7,.int .i64 x8]
abbrev zTB9c (x0 x1 x2 x3 x4 x5 x6 x7:Bool) (x8:Int):List Value:=[.bool x0,.bool x1,.bool x2,.bool x3,.bool x4,.bool x5,.bool x6,.bool x7,.int .i64 x8]
set_option maxHeartbeats 2000000 in
theorem protect_walk0 {W:World} {m:Pm} (k:Int) (root:Nat) (p:Int) (pa pb pc:Bool)
 (FC: ∀ w:World,Below W.heap.size W w->Calls Tryd.prog 62 #[pv m k,.int .i64 root,.int .i64 p] w fun e w'=> ∃ (t0 t1 t2 t3:Int) (po:Option Addr) (nn cc:Nat),e=.returned (.tuple #[.agg (zTB9a t0 t1 t2 t3 (.slice po nn cc)),.agg (zTB9b false false false false false false false false 0)])/\Below w.heap.size w w') :
 Calls Tryd.prog 41 #[pv m k,.int .i64 root,.int .i64 p,.agg #[.bool pa,.bool pb,.bool pc]] W fun e w'=>e=.returned (.int .i64 5)/\Below W.heap.size W w':=by
 have FC:Hid (Calls Tryd.prog 62 #[pv m k,.int .i64 root,.int .i64 p] ((W.alloc (.cells #[pp m.rb,pp m.b,pp m.tb,.int .i64 k] 27)).alloc (.cells #[.bool pa,.bool pb,.bool pc] 40)) fun e w'=> ∃ (t0 t1 t2 t3:Int) (po:Option Addr) (nn cc:Nat),e=.returned (.tuple #[.agg (zTB9a t0 t1 t2 t3 (.slice po nn cc)),.agg (zTB9b false false false false false false false false 0)])/\Below ((W.alloc (.cells #[pp m.rb,pp m.b,pp m.tb,.int .i64 k] 27)).alloc (.cells #[.bool pa,.bool pb,.bool pc] 40)).heap.size ((W.alloc (.cells #[pp m.rb,pp m.b,pp m.tb,.int .i64 k] 27)).alloc (.cells #[.bool pa,.bool pb,.bool pc] 40)) w'):=FC _ (below_then (Go.Joins.below_alloc1 _ _) (Go.Joins.below_alloc1 _ _))
 have s1:(W.alloc (.cells #[pp m.rb,pp m.b,pp m.tb,.int .i64 k] 27)).heap.size=W.heap.size+1:=World.size_alloc _ _
 have HB:Hid (Below W.heap.size W ((W.alloc (.cells #[pp m.rb,pp m.b,pp m.tb,.int .i64 k] 27)).alloc (.cells #[.bool pa,.bool pb,.bool pc] 40))):=below_then (Go.Joins.below_alloc1 _ _) (Go.Joins.below_alloc1 _ _)
 have BA:Hid (Blk ((W.alloc (.cells #[pp m.rb,pp m.b,pp m.tb,.int .i64 k] 27)).alloc (.cells #[.bool pa,.bool pb,.bool pc] 40)) W.heap.size [pp m.rb,pp m.b,pp m.tb,.int .i64 k] 27):=(Blk.made W [pp m.rb,pp m.b,pp m.tb,.int .i64 k] 27).below (Go.Joins.below_alloc1 _ _)
 have BR:Hid (Blk ((W.alloc (.cells #[pp m.rb,pp m.b,pp m.tb,.int .i64 k] 27)).alloc (.cells #[.bool pa,.bool pb,.bool pc] 40)) (W.heap.size+1) [.bool pa,.bool pb,.bool pc] 40):=by
  rw [<- s1]
  exact Blk.made _ [.bool pa,.bool pb,.bool pc] 40
 clear s1
 go_enter Tryd.func41,Tryd.ntmps41
 go_upto_region 1 with fail
 generalize ((W.alloc (.cells #[pp m.rb,pp m.b,pp m.tb,.int .i64 k] 27)).alloc (.cells #[.bool pa,.bool pb,.bool pc] 40))=W1 at HB BA BR FC |-
 obtain ⟨R,hR⟩: ∃ R,W.heap.size+1=R:=⟨_,rfl⟩
 obtain ⟨A,hA⟩: ∃ A,W.heap.size=A:=⟨_,rfl⟩
 have LO:Hid (W.heap.size<=A/\W.heap.size<=R/\A≠R):=⟨by omega,by omega,by omega⟩
 rw [hR] at BR |-
 rw [hA] at BA |-
 clear hR hA
 have BX:=BA.out
 have c0:W1.cell? ⟨A,0,none⟩=some (pp m.rb):=BX.cell 0
 have c1:W1.cell? ⟨A,1,none⟩=some (pp m.b):=BX.cell 1
 have c2:W1.cell? ⟨A,2,none⟩=some (pp m.tb):=BX.cell 2
 have c3:W1.cell? ⟨A,3,none⟩=some (.int .i64 k):=BX.cell 3
 have lA:=BX.lt
 clear BX
 go_wp2_with fail
 refine Calls.mono FC.out ?_
 rintro e w1 ⟨t0,t1,t2,t3,po,nn,cc,rfl,hb1⟩
 obtain ⟨HV0,TH0⟩:=two_boxes w1 [.int .i64 t0,.int .i64 t1,.int .i64 t2,.int .i64 t3,.slice po nn cc] (zTB9c false false false false false false false false 0) rfl rfl
 obtain ⟨V,hV⟩: ∃ V,V=((((w1.alloc (.cells (zTB9a 0 0 0 0 (.slice none 0 0)) 134)).alloc (.cells (zTB9b false false false false false false false false 0) 90)).setCells w1.heap.size 0 [.int .i64 t0,.int .i64 t1,.int .i64 t2,.int .i64 t3,.slice po nn cc]).setCells (w1.heap.size+1) 0 (zTB9c false false false false false false false false 0)):=⟨_,rfl⟩
 have HV:Hid (Blk V w1.heap.size [.int .i64 t0,.int .i64 t1,.int .i64 t2,.int .i64 t3,.slice po nn cc] 134/\Blk V (w1.heap.size+1) (zTB9c false false false false false false false false 0) 90/\Below w1.heap.size w1 V):=by
  rw [<- hV] at HV0
  exact HV0
 have TH:Hid (((w1.alloc (.cells (zTB9a 0 0 0 0 (.slice none 0 0)) 134)).alloc (.cells (zTB9b false false false false false false false false 0) 90)).there w1.heap.size 0 5/\(((w1.alloc (.cells (zTB9a 0 0 0 0 (.slice none 0 0)) 134)).alloc (.cells (zTB9b false false false false false false false false 0) 90)).setCells w1.heap.size 0 [.int .i64 t0,.int .i64 t1,.int .i64 t2,.int .i64 t3,.slice po nn cc]).there (w1.heap.size+1) 0 9):=TH0
 clear HV0 TH0
 have BW:Hid (Below W.heap.size W V):=below_then (below_then HB.out hb1) HV.out.2.2
 clear hb1 HB BA BR FC c0 c1 c2 c3 lA
 rename_i hcont
 refine hcont _ _ ?_
 clear hcont
 iterate 15 go_step
 refine store_pat w1.heap.size 0 (zTB9a t0 t1 t2 t3 (.slice po nn cc)) rfl rfl TH.out.1 (by kernel_rfl) (by simp [Value.oneCell']) ?_
 refine store_pat (w1.heap.size+1) 0 (zTB9b false false false false false false false false 0) rfl rfl TH.out.2 (by kernel_rfl) (by simp [Value.oneCell']) ?_
 simp only [List.toList_toArray]
 rw [<- hV]
 clear hV TH
 go_upto_region 2 with fail
 generalize w1.heap.size+1=E at HV |-
 generalize w1.heap.size=T at HV |-
 have e0:V.cell? ⟨E,0,none⟩=some (.bool false):=HV.out.2.1.cell 0
 have lE:=HV.out.2.1.lt
 clear HV LO
 go_wp2_with fail
 go_returns
 exact ⟨rfl,BW.out⟩
set_option maxHeartbeats 2000000 in
theorem protect_walk1 {X:Nat->Prop} {W:World} {m:Pm} (k:Int) (root:Nat) (p:Int) (pa pb pc:Bool) (ff:Int) (Q:World->Prop)
 (FC: ∀ w:World,Below W.heap.size W w->Calls Tryd.prog 62 #[pv m k,.int .i64 root,.int .i64 p] w fun e w'=> ∃ (t0 t1 t2 t3:Int) (po:Option Addr) (nn cc:Nat) (b1 b2 b3 b4 b5 b6 b7:Bool),e=.returned (.tuple #[.agg (zTB9a t0 t1 t2 t3 (.slice po nn cc)),.agg (zTB9b true b1 b2 b3 b4 b5 b6 b7 ff)])/\Below w.heap.size w w'/\(∀ w2:World,Below W.heap.size W w2->Below w'.heap.size w' w2->Calls Tryd.prog 60 #[pv m k,.agg (zTB9a t0 t1 t2 t3 (.slice po nn cc)),ev true pa pb false false false false (!pc) ff] w2 fun e w'=>e=.returned (.tuple #[])/\Kx (XW X W w2) w2 w'/\Q w')) :
 Calls Tryd.prog 41 #[pv m k,.int .i64 root,.int .i64 p,.agg #[.bool pa,.bool pb,.bool pc]] W fun e w'=>e=.returned (.int .i64 0)/\Q w':=by
 have FC:Hid (Calls Tryd.prog 62 #[pv m k,.int .i64 root,.int .i64 p] ((W.alloc (.cells #[pp m.rb,pp m.b,pp m.tb,.int .i64 k] 27)).alloc (.cells #[.bool pa,.bool pb,.bool pc] 40)) fun e w'=> ∃ (t0 t1 t2 t3:Int) (po:Option Addr) (nn cc:Nat) (b1 b2 b3 b4 b5 b6 b7:Bool),e=.returned (.tuple #[.agg (zTB9a t0 t1 t2 t3 (.slice po nn cc)),.agg (zTB9b true b1 b2 b3 b4 b5 b6 b7 ff)])/\Below ((W.alloc (.cells #[pp m.rb,pp m.b,pp m.tb,.int .i64 k] 27)).alloc (.cells #[.bool pa,.bool pb,.bool pc] 40)).heap.size ((W.alloc (.cells #[pp m.rb,pp m.b,pp m.tb,.int .i64 k] 27)).alloc (.cells #[.bool pa,.bool pb,.bool pc] 40)) w'/\(∀ w2:World,Below W.heap.size W w2->Below w'.heap.size w' w2->Calls Tryd.prog 60 #[pv m k,.agg (zTB9a t0 t1 t2 t3 (.slice po nn cc)),ev true pa pb false false false false (!pc) ff] w2 fun e w'=>e=.returned (.tuple #[])/\Kx (XW X W w2) w2 w'/\Q w')):=FC _ (below_then (Go.Joins.below_alloc1 _ _) (Go.Joins.below_alloc1 _ _))
 have LEC:Hid (∀ w:World,Calls Tryd.prog 61 #[.int .i64 ff,.agg #[.bool pa,.bool pb,.bool pc]] w fun e w'=>e=.returned (ev true pa pb false false false false (!pc) ff)/\Below w.heap.size w w'):=fun w=>leaf_any ff pa pb pc w
 have s1:(W.alloc (.cells #[pp m.rb,pp m.b,pp m.tb,.int .i64 k] 27)).heap.size=W.heap.size+1:=World.size_alloc _ _
 have HB:Hid (Below W.heap.size W ((W.alloc (.cells #[pp m.rb,pp m.b,pp m.tb,.int .i64 k] 27)).alloc (.cells #[.bool pa,.bool pb,.bool pc] 40))):=below_then (Go.Joins.below_alloc1 _ _) (Go.Joins.below_alloc1 _ _)
 have BA:Hid (Blk ((W.alloc (.cells #[pp m.rb,pp m.b,pp m.tb,.int .i64 k] 27)).alloc (.cells #[.bool pa,.bool pb,.bool pc] 40)) W.heap.size [pp m.rb,pp m.b,pp m.tb,.int .i64 k] 27):=(Blk.made W [pp m.rb,pp m.b,pp m.tb,.int .i64 k] 27).below (Go.Joins.below_alloc1 _ _)
 have BR:Hid (Blk ((W.alloc (.cells #[pp m.rb,pp m.b,pp m.tb,.int .i64 k] 27)).alloc (.cells #[.bool pa,.bool pb,.bool pc] 40)) (W.heap.size+1) [.bool pa,.bool pb,.bool pc] 40):=by
  rw [<- s1]
  exact Blk.made _ [.bool pa,.bool pb,.bool pc] 40
 clear s1
 go_enter Tryd.func41,Tryd.ntmps41
 go_upto_region 1 with fail
 generalize ((W.alloc (.cells #[pp m.rb,pp m.b,pp m.tb,.int .i64 k] 27)).alloc (.cells #[.bool pa,.bool pb,.bool pc] 40))=W1 at HB BA BR FC |-
 obtain ⟨R,hR⟩: ∃ R,W.heap.size+1=R:=⟨_,rfl⟩
 obtain ⟨A,hA⟩: ∃ A,W.heap.size=A:=⟨_,rfl⟩
 have LO:Hid (W.heap.size<=A/\W.heap.size<=R/\A≠R):=⟨by omega,by omega,by omega⟩
 rw [hR] at BR |-
 rw [hA] at BA |-
 clear hR hA
 have BX:=BA.out
 have c0:W1.cell? ⟨A,0,none⟩=some (pp m.rb):=BX.cell 0
 have c1:W1.cell? ⟨A,1,none⟩=some (pp m.b):=BX.cell 1
 have c2:W1.cell? ⟨A,2,none⟩=some (pp m.tb):=BX.cell 2
 have c3:W1.cell? ⟨A,3,none⟩=some (.int .i64 k):=BX.cell 3
 have lA:=BX.lt
 clear BX
 go_wp2_with fail
 refine Calls.mono FC.out ?_
 rintro e w1 ⟨t0,t1,t2,t3,po,nn,cc,b1,b2,b3,b4,b5,b6,b7,rfl,hb1,hlk⟩
 have LKC:Hid (∀ w2:World,Below W.heap.size W w2->Below w1.heap.size w1 w2->Calls Tryd.prog 60 #[pv m k,.agg (zTB9a t0 t1 t2 t3 (.slice po nn cc)),ev true pa pb false false false false (!pc) ff] w2 fun e w'=>e=.returned (.tuple #[])/\Kx (XW X W w2) w2 w'/\Q w'):=hlk
 clear hlk
 obtain ⟨HV0,TH0⟩:=two_boxes w1 [.int .i64 t0,.int .i64 t1,.int .i64 t2,.int .i64 t3,.slice po nn cc] (zTB9c true b1 b2 b3 b4 b5 b6 b7 ff) rfl rfl
 obtain ⟨V,hV⟩: ∃ V,V=((((w1.alloc (.cells (zTB9a 0 0 0 0 (.slice none 0 0)) 134)).alloc (.cells (zTB9b false false false false false false false false 0) 90)).setCells w1.heap.size 0 [.int .i64 t0,.int .i64 t1,.int .i64 t2,.int .i64 t3,.slice po nn cc]).setCells (w1.heap.size+1) 0 (zTB9c true b1 b2 b3 b4 b5 b6 b7 ff)):=⟨_,rfl⟩
 have HV:Hid (Blk V w1.heap.size [.int .i64 t0,.int .i64 t1,.int .i64 t2,.int .i64 t3,.slice po nn cc] 134/\Blk V (w1.heap.size+1) (zTB9c true b1 b2 b3 b4 b5 b6 b7 ff) 90/\Below w1.heap.size w1 V):=by
  rw [<- hV] at HV0
  exact HV0
 have TH:Hid (((w1.alloc (.cells (zTB9a 0 0 0 0 (.slice none 0 0)) 134)).alloc (.cells (zTB9b false false false false false false false false 0) 90)).there w1.heap.size 0 5/\(((w1.alloc (.cells (zTB9a 0 0 0 0 (.slice none 0 0)) 134)).alloc (.cells (zTB9b false false false false false false false false 0) 90)).setCells w1.heap.size 0 [.int .i64 t0,.int .i64 t1,.int .i64 t2,.int .i64 t3,.slice po nn cc]).there (w1.heap.size+1) 0 9):=TH0
 clear HV0 TH0
 have BW:Hid (Below W.heap.size W V/\Below w1.heap.size w1 V):=⟨below_then (below_then HB.out hb1) HV.out.2.2,HV.out.2.2⟩
 have BRV:Hid (Blk V R [.bool pa,.bool pb,.bool pc] 40):=(BR.out.below hb1).below HV.out.2.2
 have BAV:Hid (Blk V A [pp m.rb,pp m.b,pp m.tb,.int .i64 k] 27):=(BA.out.below hb1).below HV.out.2.2
 have LL:Hid (W.heap.size<=A/\W.heap.size<=w1.heap.size/\W.heap.size<=w1.heap.size+1/\W.heap.size<=R):=by have:=HB.out.size;have:=hb1.size;exact ⟨LO.out.1,by omega,by omega,LO.out.2.1⟩
 clear hb1 HB BA BR FC LO c0 c1 c2 c3 lA
 rename_i hcont
 refine hcont _ _ ?_
 clear hcont
 iterate 15 go_step
 refine store_pat w1.heap.size 0 (zTB9a t0 t1 t2 t3 (.slice po nn cc)) rfl rfl TH.out.1 (by kernel_rfl) (by simp [Value.oneCell']) ?_
 refine store_pat (w1.heap.size+1) 0 (zTB9b true b1 b2 b3 b4 b5 b6 b7 ff) rfl rfl TH.out.2 (by kernel_rfl) (by simp [Value.oneCell']) ?_
 simp only [List.toList_toArray]
 rw [<- hV]
 clear hV TH
 go_upto_region 2 with fail
 generalize w1.heap.size+1=E at HV LL |-
 obtain ⟨T,hT⟩: ∃ T,w1.heap.size=T:=⟨_,rfl⟩
 rw [hT] at HV LL |-
 clear hT
 have e0:V.cell? ⟨E,0,none⟩=some (.bool true):=HV.out.2.1.cell 0
 have lE:=HV.out.2.1.lt
 have BA2:Hid ((fun cw=>Blk cw A [pp m.rb,pp m.b,pp m.tb,.int .i64 k] 27/\Blk cw T [.int .i64 t0,.int .i64 t1,.int .i64 t2,.int .i64 t3,.slice po nn cc] 134/\Blk cw E (zTB9c true b1 b2 b3 b4 b5 b6 b7 ff) 90/\Blk cw R [.bool pa,.bool pb,.bool pc] 40) V):=⟨BAV.out,HV.out.1,HV.out.2.1,BRV.out⟩
 clear BAV BRV HV
 go_upto_region 4 with fail
 clear e0 lE
 refine wp_region_noPanic ?_
 refine wp_region_held_drew (S:=fun cw=>Blk cw A [pp m.rb,pp m.b,pp m.tb,.int .i64 k] 27/\Blk cw T [.int .i64 t0,.int .i64 t1,.int .i64 t2,.int .i64 t3,.slice po nn cc] 134/\Blk cw E (zTB9c true b1 b2 b3 b4 b5 b6 b7 ff) 90/\Blk cw R [.bool pa,.bool pb,.bool pc] 40) (by kernel_rfl) ?_ (fun hHeld=> ?_)
 . exact BA2.out
 have BU:Hid (Below W.heap.size W V.drew/\Below w1.heap.size w1 V.drew):=⟨below_drew BW.out.1,below_drew BW.out.2⟩
 clear BA2 BW
 generalize V.drew=U at hHeld BU |-
 refine tk 0 21 (.agg #[pp m.rb,pp m.b,pp m.tb,.int .i64 k]) rfl (Or.inl ⟨by rfl,?_⟩) ?_
 . intro w hSw;(try dsimp only at hSw);have r0:=Blk.cell hSw.1 0;have r1:=Blk.cell hSw.1 1;have r2:=Blk.cell hSw.1 2;have r3:=Blk.cell hSw.1 3;(try go_simp);(try simp [*])
 try simp only [Act.put,z1,z2,z3]
 refine tk 1 22 (.agg (zTB9a t0 t1 t2 t3 (.slice po nn cc))) rfl (Or.inl ⟨by rfl,?_⟩) ?_
 . intro w hSw;(try dsimp only at hSw);have r0:=Blk.cell hSw.2.1 0;have r1:=Blk.cell hSw.2.1 1;have r2:=Blk.cell hSw.2.1 2;have r3:=Blk.cell hSw.2.1 3;have r4:=Blk.cell hSw.2.1 4;(try go_simp);(try simp [*])
 try simp only [Act.put,z1,z2,z3]
 refine tk 2 23 ?_ rfl (Or.inl ⟨by rfl,?_⟩) ?_
 rotate_left
 . intro w hSw;(try dsimp only at hSw);go_simp;(try with_reducible rfl)
 try simp only [Act.put,z1,z2,z3]
 refine tk 3 24 (.int .i64 ff) rfl (Or.inl ⟨by rfl,?_⟩) ?_
 . intro w hSw;(try dsimp only at hSw);have r:=Blk.cell hSw.2.2.1 8;(try go_simp);(try simp [*])
 try simp only [Act.put,z1,z2,z3]
 refine tk 4 25 (.agg #[.bool pa,.bool pb,.bool pc]) rfl (Or.inl ⟨by rfl,?_⟩) ?_
 . intro w hSw;(try dsimp only at hSw);have r0:=Blk.cell hSw.2.2.2 0;have r1:=Blk.cell hSw.2.2.2 1;have r2:=Blk.cell hSw.2.2.2 2;(try go_simp);(try simp [*])
 try simp only [Act.put,z1,z2,z3]
 refine wpAnyH_ready (rs:=[5]) (by kernel_rfl) (by simp) ?_
 refine AllReadyH.cons (o:=⟨some 26,_,_,_,_,none⟩) rfl (fun K hK=> ?_) AllReadyH.nil
 go_simp
 go_wp2_with (go_at_call 61;refine Calls.mono (LEC.out _) ?_;rintro e u1 ⟨rfl,hb1⟩)
 have BU1:Hid (Below W.heap.size W u1/\Below w1.heap.size w1 u1):=⟨below_then BU.out.1 hb1,below_then BU.out.2 hb1⟩
 refine hK.out _ _ ⟨hHeld.1.below hb1,hHeld.2.1.below hb1,hHeld.2.2.1.below hb1,hHeld.2.2.2.below hb1⟩ (fun hHeld2=> ?_)
 clear hK K hHeld hb1 BU
 have hHeld:=hHeld2
 clear hHeld2
 try simp only [Act.put,z1,z2,z3]
 refine wpAnyH_ready (rs:=[6]) (by kernel_rfl) (by simp) ?_
 refine AllReadyH.cons (o:=⟨some 27,_,_,_,_,none⟩) rfl (fun K hK=> ?_) AllReadyH.nil
 go_simp
 go_wp2_with (go_at_call 60;refine Calls.mono (LKC.out _ BU1.out.1 BU1.out.2) ?_;rintro e u2 ⟨rfl,hk,hq⟩)
 have E2:Hid (Q u2):=hq
 refine hK.out _ _ ⟨hHeld.1.kx hk (Or.inr ⟨LL.out.1,hHeld.1.lt⟩),hHeld.2.1.kx hk (Or.inr ⟨LL.out.2.1,hHeld.2.1.lt⟩),hHeld.2.2.1.kx hk (Or.inr ⟨LL.out.2.2.1,hHeld.2.2.1.lt⟩),hHeld.2.2.2.kx hk (Or.inr ⟨LL.out.2.2.2,hHeld.2.2.2.lt⟩)⟩ (fun hHeld2=> ?_)
 clear hK K hHeld hk hq BU1
 have hHeld:=hHeld2
 clear hHeld2
 try simp only [Act.put,z1,z2,z3]
 clear hHeld
 refine wpAnyH_done (by kernel_rfl) ?_ _
 refine NoPanic.normal ?_
 go_wp2_with fail
 go_returns
 exact ⟨rfl,E2.out⟩
end Go.Proofs.YtkiclbnbnjbcaaaDoor.Tt
namespace Go.Proofs.YtkiclbnbnjbcaaaDoor.Tt
open Go.ChangeShapes Go.WideShapes Go.ChangeAt Go.RowKit Go.Maps
set_option linter.unusedSimpArgs false
set_option linter.unusedVariables false
set_option maxRecDepth 8000
def Reset (X:Nat->Prop) (W:World) (m:Pm) (s:Ps) (root:Nat) (tab:Nat->Nat->Option Nat) (lf:Nat->Option Lf) (p:Nat) (v:Lf) (w':World):Prop :=
 ∃ M':Int->Int,Pu X w' m { s with M:=M',q:=s.q+2 }/\Kx X W w'/\Rt m { s with M:=M',q:=s.q+2 } root tab (lfSet lf p (some v))/\(∀ f:Nat,(∀ l x,tab l x≠some f)-> ∀ j:Nat,j<512->En M' f j=En s.M f j)/\ ∀ j:Nat,256<=j->j<512->En M' root j=En s.M root j
theorem full_set {tab:Nat->Nat->Option Nat} {lf:Nat->Option Lf} (fu:Full tab lf) (p:Nat) (v:Lf):Full tab (lfSet lf p (some v)):=fun l x f l4 e=>by
 obtain ⟨p',hp',e'⟩:=fu l x f l4 e
 refine ⟨p',?_,e'⟩
 by_cases c:p'=p
 . rw [c,lf_same];rfl
 . rw [lf_other c];exact hp'
theorem rt_set {m:Pm} {s:Ps} {root:Nat} {tab:Nat->Nat->Option Nat} {lf:Nat->Option Lf} (H:Rt m s root tab lf) {p g:Nat} {v:Lf} (hp:p<34359738368) (hg:tab 1 (p / 512)=some g) (hv:0<=v.f/\v.f<1048576) (q:Nat) :
 Rt m { s with M:=enSet s.M g (atP p 3) (leafV false false v),q:=q } root tab (lfSet lf p (some v))/\(∀ f:Nat,(∀ l x,tab l x≠some f)-> ∀ j:Nat,j<512->En (enSet s.M g (atP p 3) (leafV false false v)) f j=En s.M f j)/\ ∀ j:Nat,256<=j->j<512->En (enSet s.M g (atP p 3) (leafV false false v)) root j=En s.M root j :=
 ⟨⟨H.pw.setLeaf hp hg hv,full_set H.fu p v,H.ow⟩,fun f h1 j hj=>by
  have fg:f≠g:=fun q=>h1 _ _ (by rw [q];exact hg)
  exact en_other s.M _ (at_bd p 3).1 (at_bd p 3).2 (by omega) (by omega) (Or.inl (by omega)),fun j h1 hj=>by
  have ne:root≠g:=fun q=>by
   have:=(H.pw.inj 4 0 1 (p / 512) root H.pw.t4 (by rw [hg,q])).1
   omega
  exact en_other s.M _ (at_bd p 3).1 (at_bd p 3).2 (by omega) (by omega) (Or.inl (by omega))⟩
theorem protect_bad (m:Pm) (k:Int) (root:Nat) (p:Int) (pa pb pc:Bool) (hbad: ¬ (0<=p/\p<34359738368)) (W:World) :
 Calls Tryd.prog 41 #[pv m k,.int .i64 root,.int .i64 p,.agg #[.bool pa,.bool pb,.bool pc]] W fun e w'=>e=.returned (.int .i64 5)/\Below W.heap.size W w':=by
 refine protect_walk0 k root p pa pb pc (fun w _=>(find_bad m k root p hbad w).mono ?_)
 rintro e' w' ⟨rfl,hb'⟩
 exact ⟨_,_,_,_,_,_,_,rfl,hb'⟩
theorem protect_none {X:Nat->Prop} {W:World} {m:Pm} {s:Ps} (h:Pu X W m s) {root:Nat} {tab:Nat->Nat->Option Nat} {lf:Nat->Option Lf} (H:Rt m s root tab lf) (k:Int) (p:Nat) (e:lf p=none) (pa pb pc:Bool) :
 Calls Tryd.prog 41 #[pv m k,.int .i64 root,.int .i64 p,.agg #[.bool pa,.bool pb,.bool pc]] W fun e w'=>e=.returned (.int .i64 5)/\Below W.heap.size W w':=by
 by_cases hp:p<34359738368
 . refine protect_walk0 k root p pa pb pc (fun w hb=>(find_any (h.below hb) H k p hp).mono ?_)
   rintro e' w' ⟨g,c,n,L,y,rfl,⟨_,_,_,_,_,_,q | ⟨v,q,_⟩⟩,hb'⟩
   . rw [q.2,unp_zero]
     exact ⟨_,_,_,_,_,_,_,rfl,hb'⟩
   . rw [e] at q;cases q
 . exact protect_bad m k root p pa pb pc (fun q=>hp (by omega)) W
theorem protect_ok {X:Nat->Prop} {W:World} {m:Pm} {s:Ps} (h:Pu X W m s) {root:Nat} {tab:Nat->Nat->Option Nat} {lf:Nat->Option Lf} (H:Rt m s root tab lf) (k:Int) (p:Nat) (v:Lf) (e:lf p=some v) (pa pb pc:Bool) (hq:s.q<4000000000000000000) :
 Calls Tryd.prog 41 #[pv m k,.int .i64 root,.int .i64 p,.agg #[.bool pa,.bool pb,.bool pc]] W fun e w'=>e=.returned (.int .i64 0)/\Reset X W m s root tab lf p ⟨v.f,pa,pb,pc⟩ w':=by
 have hp:=(H.pw.lf1 p v e).1
 refine protect_walk1 (X:=X) k root p pa pb pc v.f _ (fun w hb=>(find_any (h.below hb) H k p hp).mono ?_)
 rintro e' w' ⟨g,c,n,L,y,rfl,⟨hr,hl,gl,_,T,hh,q | ⟨v',q,mk,n4⟩⟩,hb'⟩
 . rw [e] at q;cases q.1
 . rw [e] at q
   cases q
   obtain ⟨hv,a,d,rfl⟩:=mk
   unfold leafV
   rw [unp_pack _ _ _ _ _ _ _ _ _ hv.1 hv.2]
   refine ⟨_,_,_,_,_,_,_,_,_,_,_,_,_,_,rfl,hb',fun w2 b2 b3=> ?_⟩
   have l4:L.length=4:=by omega
   obtain ⟨g3,hg3⟩: ∃ g3,L[3]'(by omega)=g3:=⟨_,rfl⟩
   have tg:tab 1 (p / 512)=some g3:=T.is 3 g3 (by rw [<- hg3];exact List.getElem?_eq_getElem (by omega))
   have hx:m.has (L[3]'(by omega):Nat)=true:=hh _ (List.getElem_mem _)
   have gw:W.heap.size<=g:=Nat.le_trans hb.size gl
   have r2:=hr.below b3
   have lk:=link_n (h.grow b2) (by omega) k (atP p) g c L 3 n (by omega) (by omega) (by omega) hx (at_bd p 3) r2 (Or.inr ⟨gw,r2.1⟩) true pa pb false false false false (!pc) v.f hv.1 hv.2
   refine Calls.mono lk ?_
   rintro e w' ⟨rfl,hp',hk'⟩
   rw [hg3] at hp'
   have rs:=rt_set H hp tg (v:=⟨v.f,pa,pb,pc⟩) hv (s.q+2)
   exact ⟨rfl,hk',_,pu_of h hp',kx_of h b2 hk',rs.1,rs.2⟩
end Go.Proofs.YtkiclbnbnjbcaaaDoor.Tt
namespace Go.Proofs.YtkiclbnbnjbcaaaDoor.Tt
open Go.ChangeShapes Go.WideShapes Go.ChangeAt Go.RowKit Go.Maps
set_option linter.unusedSimpArgs false
set_option linter.unusedVariables false
set_option maxRecDepth 8000
theorem lt_of_cell {w:World} {a:Addr} {v:Value} (h:w.cell? a=some v):a.block<w.heap.size:=by
 unfold World.cell? at h
 by_cases c:a.block<w.heap.size
 . exact c
 . rw [Array.getElem?_eq_none (by omega)] at h
   simp at h
structure B3 where
 x:Bool
 y:Bool
 z:Bool
abbrev B3.val (s:B3):Value:=.agg #[.bool s.x,.bool s.y,.bool s.z]
theorem perm_cells {H:Type} {enc:TypeId × Value->H} {W:World} {base:Nat} {sp:Nat->Bool} {held:Bool} {x:DataW H} {ps:List MemPlace} {fuel:Nat} {cs:List Value} (hf:DataW.trod enc Tryd.prog W base sp held fuel 40 cs=some (x,ps)) (hl:cs.length=3) :
 ∃ (a0:Bool) (a1:Bool) (a2:Bool),cs=[.bool a0,.bool a1,.bool a2]/\True:=by
 obtain ⟨c0,c1,c2,hcs⟩: ∃ c0 c1 c2,cs=[c0,c1,c2]:=by
  revert hl
  match cs with
  | [c0, c1, c2] => intro _; exact ⟨c0, c1, c2, rfl⟩
  | [] => intro q; cases q
  | [_] => intro q; cases q
  | [_, _] => intro q; cases q
  | _ :: _ :: _ :: _ :: _ => intro q; simp at q
 subst hcs
 obtain ⟨zs,m,_,_,jl,jlen,jf⟩:=DataW.trod_struct Tryd.underlying40 hf
 have jg: ∀ i,i<3-> ∃ y,zs[i]? =some y:=fun i hi=>⟨_,List.getElem?_eq_getElem (by rw [jlen];exact hi)⟩
 obtain ⟨⟨z0a,z0b⟩,m0⟩:=jg 0 (by omega)
 obtain ⟨b0,e0,_⟩:=DataW.trod_bool Tryd.underlying4 ((jf 0 _ rfl).trans m0)
 obtain rfl:=cell_of cellsB e0 (c:=c0) (by first | rfl | (rw [cellsB];rfl))
 obtain ⟨⟨z1a,z1b⟩,m1⟩:=jg 1 (by omega)
 obtain ⟨b1,e1,_⟩:=DataW.trod_bool Tryd.underlying4 ((jf 1 _ rfl).trans m1)
 obtain rfl:=cell_of cellsB e1 (c:=c1) (by first | rfl | (rw [cellsB];rfl))
 obtain ⟨⟨z2a,z2b⟩,m2⟩:=jg 2 (by omega)
 obtain ⟨b2,e2,_⟩:=DataW.trod_bool Tryd.underlying4 ((jf 2 _ rfl).trans m2)
 obtain rfl:=cell_of cellsB e2 (c:=c2) (by first | rfl | (rw [cellsB];rfl))
 exact ⟨_,_,_,rfl,trivial⟩
structure Ac where
 kd:Int
 pg:Int
 fr:Int
 a:Bool
 b:Bool
 c:Bool
theorem cellsAct:Tryd.prog.cellsOf 42=6:=by kernel_rfl
theorem act_cells {H:Type} {enc:TypeId × Value->H} {W:World} {base:Nat} {sp:Nat->Bool} {held:Bool} {x:DataW H} {ps:List MemPlace} {fuel:Nat} {cs:List Value} (hf:DataW.trod enc Tryd.prog W base sp held fuel 42 cs=some (x,ps)) (hl:cs.length=6) :
 ∃ (a0 a1 a2:Int) (a3 a4 a5:Bool),cs=[.int .i64 a0,.int .i64 a1,.int .i64 a2,.bool a3,.bool a4,.bool a5]/\(Lit.int .i64 a0).wf=true/\(Lit.int .i64 a1).wf=true/\(Lit.int .i64 a2).wf=true:=by
 obtain ⟨c0,c1,c2,c3,c4,c5,hcs⟩: ∃ c0 c1 c2 c3 c4 c5,cs=[c0,c1,c2,c3,c4,c5]:=by
  revert hl
  match cs with
  | [c0, c1, c2, c3, c4, c5] => intro _; exact ⟨c0, c1, c2, c3, c4, c5, rfl⟩
  | [] => intro q; cases q
  | [_] => intro q; cases q
  | [_, _] => intro q; cases q
  | [_, _, _] => intro q; cases q
  | [_, _, _, _] => intro q; cases q
  | [_, _, _, _, _] => intro q; cases q
  | _ :: _ :: _ :: _ :: _ :: _ :: _ :: _ => intro q; simp at q
 subst hcs
 obtain ⟨zs,m,_,_,jl,jlen,jf⟩:=DataW.trod_struct Tryd.underlying42 hf
 have jg: ∀ i,i<4-> ∃ y,zs[i]? =some y:=fun i hi=>⟨_,List.getElem?_eq_getElem (by rw [jlen];exact hi)⟩
 obtain ⟨⟨z0a,z0b⟩,m0⟩:=jg 0 (by omega)
 obtain ⟨b0,e0,_,w0⟩:=DataW.trod_int Tryd.underlying3 ((jf 0 _ rfl).trans m0)
 obtain rfl:=cell_of cellsI e0 (c:=c0) (by first | rfl | (rw [cellsI];rfl))
 obtain ⟨⟨z1a,z1b⟩,m1⟩:=jg 1 (by omega)
 obtain ⟨b1,e1,_,w1⟩:=DataW.trod_int Tryd.underlying3 ((jf 1 _ rfl).trans m1)
 obtain rfl:=cell_of cellsI e1 (c:=c1) (by first | rfl | (rw [cellsI];rfl))
 obtain ⟨⟨z2a,z2b⟩,m2⟩:=jg 2 (by omega)
 obtain ⟨b2,e2,_,w2⟩:=DataW.trod_int Tryd.underlying3 ((jf 2 _ rfl).trans m2)
 obtain rfl:=cell_of cellsI e2 (c:=c2) (by first | rfl | (rw [cellsI];rfl))
 obtain ⟨⟨z3a,z3b⟩,m3⟩:=jg 3 (by omega)
 obtain ⟨b3,b4,b5,q3,_⟩:=perm_cells (show DataW.trod enc Tryd.prog W base sp held _ 40 [c3,c4,c5]=some (z3a,z3b) from (jf 3 _ rfl).trans m3) rfl
 simp only [List.cons.injEq,and_true] at q3
 obtain ⟨rfl,rfl,rfl⟩:=q3
 exact ⟨_,_,_,_,_,_,rfl,w0,w1,w2⟩
def IsActs (w:World) (p:Option Addr) (n:Nat) (A:Nat->Ac):Prop:= ∀ i,i<n-> ∃ b o,p=some ⟨b,o,none⟩/\b<w.heap.size/\w.cell? ⟨b,o+i*6+0,none⟩=some (.int .i64 (A i).kd)/\w.cell? ⟨b,o+i*6+1,none⟩=some (.int .i64 (A i).pg)/\w.cell? ⟨b,o+i*6+2,none⟩=some (.int .i64 (A i).fr)/\w.cell? ⟨b,o+i*6+3,none⟩=some (.bool (A i).a)/\w.cell? ⟨b,o+i*6+4,none⟩=some (.bool (A i).b)/\w.cell? ⟨b,o+i*6+5,none⟩=some (.bool (A i).c)/\(Lit.int .i64 (A i).pg).wf=true/\(Lit.int .i64 (A i).fr).wf=true
theorem open_acts {H:Type} {enc:TypeId × Value->H} {W:World} {base:Nat} {sp:Nat->Bool} {held:Bool} {v:Value} {x:DataW H} {ps:List MemPlace} {r:Reach} {b0:Nat}
 (hv:Value.okWide Tryd.prog W r b0 22 v) (h:DataW.Trod enc Tryd.prog W base sp held 22 v x ps) :
 ∃ (p:Option Addr) (n c:Nat) (A:Nat->Ac),v=.slice p n c/\n<=maxLen/\IsActs W p n A:=by
 obtain ⟨a',l',c',rfl⟩:=okWide_slice Tryd.underlying22 hv
 obtain ⟨fuel,hf⟩:=h
 rcases Go.Deep.open_slice Tryd.underlying22 hf with ⟨e,_⟩ | ⟨a,len,cap,m,k,D,Pl,e,hb,hl,hm,hmm,hx,hel⟩
 . have e':Value.slice a' l' c'=.slice none 0 0:=(List.cons.inj (show [Value.slice a' l' c']=[.slice none 0 0] from e)).1
   exact ⟨none,0,0,fun _=>⟨0,0,0,false,false,false⟩,e',by omega,fun i hi=>absurd hi (Nat.not_lt_zero _)⟩
 . have e':Value.slice a' l' c'=.slice (some a) len cap:=(List.cons.inj (show [Value.slice a' l' c']=[.slice (some a) len cap] from e)).1
   have hlm:len<=m:=by rw [hmm];split <;> omega
   rw [e']
   have each: ∀ i,i<len-> ∃ q:Ac,a.spot=none/\a.block<W.heap.size/\W.cell? ⟨a.block,a.off+i*6+0,none⟩=some (.int .i64 q.kd)/\W.cell? ⟨a.block,a.off+i*6+1,none⟩=some (.int .i64 q.pg)/\W.cell? ⟨a.block,a.off+i*6+2,none⟩=some (.int .i64 q.fr)/\W.cell? ⟨a.block,a.off+i*6+3,none⟩=some (.bool q.a)/\W.cell? ⟨a.block,a.off+i*6+4,none⟩=some (.bool q.b)/\W.cell? ⟨a.block,a.off+i*6+5,none⟩=some (.bool q.c)/\(Lit.int .i64 q.pg).wf=true/\(Lit.int .i64 q.fr).wf=true:=fun i hi=>by
    obtain ⟨cs',h1,h2⟩:=hel i (by omega)
    obtain ⟨c2',h3,_⟩:=hel 0 (by omega)
    rw [cellsAct] at h1 h3
    obtain ⟨_,hlen,hcell⟩:=World.cells?_some h1
    obtain ⟨_,hlen3,hcell3⟩:=World.cells?_some h3
    have hspot:a.spot=none:=by
     have:=hcell3 0 (by omega)
     simpa [Addr.add] using World.cell?_spot (this.trans (List.getElem?_eq_getElem (by omega)))
    obtain ⟨a0,a1,a2,a3,a4,a5,ecs,w0,w1,w2⟩:=act_cells h2 (by omega)
    have ad: ∀ j,(a.add (i*6)).add j=⟨a.block,a.off+i*6+j,none⟩:=fun j=>by
     rw [Go.Deep.add_add]
     unfold Addr.add
     by_cases c:i*6+j=0
     . rw [if_pos c]
       have:i*6=0/\j=0:=by omega
       obtain ⟨bb,oo,ss⟩:=a
       simp only at hspot
       subst hspot
       simp [this.1,this.2]
     . rw [if_neg c];simp;try omega
    have k0:=hcell 0 (by omega)
    rw [ad,ecs] at k0
    have k1:=hcell 1 (by omega)
    rw [ad,ecs] at k1
    have k2:=hcell 2 (by omega)
    rw [ad,ecs] at k2
    have k3:=hcell 3 (by omega)
    rw [ad,ecs] at k3
    have k4:=hcell 4 (by omega)
    rw [ad,ecs] at k4
    have k5:=hcell 5 (by omega)
    rw [ad,ecs] at k5
    exact ⟨⟨a0,a1,a2,a3,a4,a5⟩,hspot,(lt_of_cell k0:_),k0,k1,k2,k3,k4,k5,w1,w2⟩
   haveI:Inhabited Ac:=⟨⟨0,0,0,false,false,false⟩⟩
   obtain ⟨q,hq⟩:=Go.Deep.choose_lt each
   refine ⟨some a,len,cap,q,rfl,by omega,fun i hi=> ?_⟩
   have:=hq i hi
   obtain ⟨bb,oo,ss⟩:=a
   obtain ⟨s,l,rest⟩:=this
   simp only at s
   subst s
   exact ⟨bb,oo,rfl,l,rest⟩
theorem IsActs.below {w w':World} {p:Option Addr} {n:Nat} {A:Nat->Ac} (h:IsActs w p n A) (hb:Below w.heap.size w w'):IsActs w' p n A:=fun i hi=>by
 obtain ⟨b,o,e,l,c0,c1,c2,c3,c4,c5,wf⟩:=h i hi
 exact ⟨b,o,e,Nat.lt_of_lt_of_le l hb.size,(hb.cell (p:=⟨b,_,none⟩) l).trans c0,(hb.cell (p:=⟨b,_,none⟩) l).trans c1,(hb.cell (p:=⟨b,_,none⟩) l).trans c2,(hb.cell (p:=⟨b,_,none⟩) l).trans c3,(hb.cell (p:=⟨b,_,none⟩) l).trans c4,(hb.cell (p:=⟨b,_,none⟩) l).trans c5,wf⟩
end Go.Proofs.YtkiclbnbnjbcaaaDoor.Tt
namespace Go.Proofs.YtkiclbnbnjbcaaaDoor.Tt
open Go.ChangeShapes Go.WideShapes Go.ChangeAt Go.RowKit Go.Maps
set_option linter.unusedSimpArgs false
set_option linter.unusedVariables false
set_option maxRecDepth 8000
end Go.Proofs.YtkiclbnbnjbcaaaDoor.Tt
namespace Go.Proofs.YtkiclbnbnjbcaaaDoor.Tt
open Go.ChangeShapes Go.WideShapes Go.ChangeAt Go.RowKit Go.Maps
set_option linter.unusedSimpArgs false
set_option linter.unusedVariables false
set_option maxRecDepth 8000
end Go.Proofs.YtkiclbnbnjbcaaaDoor.Tt
