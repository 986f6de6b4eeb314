/- TB9 TD0 TD1 TD2 TD4 -/
import Derived.Test.YtkiclbnbnjbcaabDoorMC
namespace Go.Proofs.YtkiclbnbnjbcaabDoor.Tt
open Go.ChangeShapes Go.WideShapes Go.ChangeAt Go.RowKit Go.Maps
set_option linter.unusedSimpArgs false
set_option linter.unusedVariables false
set_option maxRecDepth 8000

set_option maxHeartbeats 2000000 in
theorem protect_walk0 {W : World} {m : Pm} (k : Int) (root : Nat) (p : Int) (pa pb pc : Bool)
    (FC : ∀ w : World, Below W.heap.size W w → Calls Tryd.prog 37 #[pv m k, .int .i64 root, .int .i64 p] w fun e w' => ∃ (t0 t1 t2 t3 : Int) (po : Option Addr) (nn cc : Nat), e = .returned (.tuple #[.agg #[.int .i64 t0, .int .i64 t1, .int .i64 t2, .int .i64 t3, .slice po nn cc], .agg #[.bool false, .bool false, .bool false, .bool false, .bool false, .bool false, .bool false, .bool false, .int .i64 0]]) ∧ Below w.heap.size w w') :
    Calls Tryd.prog 13 #[pv m k, .int .i64 root, .int .i64 p, .agg #[.bool pa, .bool pb, .bool pc]] W fun e w' => e = .returned (.int .i64 5) ∧ Below W.heap.size W w' := by
  have FC : Hid (Calls Tryd.prog 37 #[pv m k, .int .i64 root, .int .i64 p] ((W.alloc (.cells #[pp m.rb, pp m.b, pp m.tb, .int .i64 k] 27)).alloc (.cells #[.bool pa, .bool pb, .bool pc] 38)) fun e w' => ∃ (t0 t1 t2 t3 : Int) (po : Option Addr) (nn cc : Nat), e = .returned (.tuple #[.agg #[.int .i64 t0, .int .i64 t1, .int .i64 t2, .int .i64 t3, .slice po nn cc], .agg #[.bool false, .bool false, .bool false, .bool false, .bool false, .bool false, .bool false, .bool false, .int .i64 0]]) ∧ Below ((W.alloc (.cells #[pp m.rb, pp m.b, pp m.tb, .int .i64 k] 27)).alloc (.cells #[.bool pa, .bool pb, .bool pc] 38)).heap.size ((W.alloc (.cells #[pp m.rb, pp m.b, pp m.tb, .int .i64 k] 27)).alloc (.cells #[.bool pa, .bool pb, .bool pc] 38)) w') := FC _ (below_then (Go.Joins.below_alloc1 _ _) (Go.Joins.below_alloc1 _ _))
  have s1 : (W.alloc (.cells #[pp m.rb, pp m.b, pp m.tb, .int .i64 k] 27)).heap.size = W.heap.size + 1 := World.size_alloc _ _
  have HB : Hid (Below W.heap.size W ((W.alloc (.cells #[pp m.rb, pp m.b, pp m.tb, .int .i64 k] 27)).alloc (.cells #[.bool pa, .bool pb, .bool pc] 38))) := below_then (Go.Joins.below_alloc1 _ _) (Go.Joins.below_alloc1 _ _)
  have BA : Hid (Blk ((W.alloc (.cells #[pp m.rb, pp m.b, pp m.tb, .int .i64 k] 27)).alloc (.cells #[.bool pa, .bool pb, .bool pc] 38)) W.heap.size [pp m.rb, pp m.b, pp m.tb, .int .i64 k] 27) := (Blk.made W [pp m.rb, pp m.b, pp m.tb, .int .i64 k] 27).below (Go.Joins.below_alloc1 _ _)
  have BR : Hid (Blk ((W.alloc (.cells #[pp m.rb, pp m.b, pp m.tb, .int .i64 k] 27)).alloc (.cells #[.bool pa, .bool pb, .bool pc] 38)) (W.heap.size + 1) [.bool pa, .bool pb, .bool pc] 38) := by
    rw [← s1]
    exact Blk.made _ [.bool pa, .bool pb, .bool pc] 38
  clear s1
  go_enter Tryd.func13, Tryd.ntmps13
  go_upto_region 1 with fail
  generalize ((W.alloc (.cells #[pp m.rb, pp m.b, pp m.tb, .int .i64 k] 27)).alloc (.cells #[.bool pa, .bool pb, .bool pc] 38)) = W1 at HB BA BR FC ⊢
  obtain ⟨R, hR⟩ : ∃ R, W.heap.size + 1 = R := ⟨_, rfl⟩
  obtain ⟨A, hA⟩ : ∃ A, W.heap.size = A := ⟨_, rfl⟩
  have LO : Hid (W.heap.size ≤ A ∧ W.heap.size ≤ R ∧ A ≠ R) := ⟨by omega, by omega, by omega⟩
  rw [hR] at BR ⊢
  rw [hA] at BA ⊢
  clear hR hA
  have BX := BA.out
  have c0 : W1.cell? ⟨A, 0, none⟩ = some (pp m.rb) := BX.cell 0
  have c1 : W1.cell? ⟨A, 1, none⟩ = some (pp m.b) := BX.cell 1
  have c2 : W1.cell? ⟨A, 2, none⟩ = some (pp m.tb) := BX.cell 2
  have c3 : W1.cell? ⟨A, 3, none⟩ = some (.int .i64 k) := BX.cell 3
  have lA := BX.lt
  clear BX
  go_wp2_with fail
  refine Calls.mono FC.out ?_
  rintro e w1 ⟨t0, t1, t2, t3, po, nn, cc, rfl, hb1⟩
  obtain ⟨HV0, TH0⟩ := two_boxes w1 [.int .i64 t0, .int .i64 t1, .int .i64 t2, .int .i64 t3, .slice po nn cc] [.bool false, .bool false, .bool false, .bool false, .bool false, .bool false, .bool false, .bool false, .int .i64 0] rfl rfl
  obtain ⟨V, hV⟩ : ∃ V, V = ((((w1.alloc (.cells #[.int .i64 0, .int .i64 0, .int .i64 0, .int .i64 0, .slice none 0 0] 86)).alloc (.cells #[.bool false, .bool false, .bool false, .bool false, .bool false, .bool false, .bool false, .bool false, .int .i64 0] 72)).setCells w1.heap.size 0 [.int .i64 t0, .int .i64 t1, .int .i64 t2, .int .i64 t3, .slice po nn cc]).setCells (w1.heap.size + 1) 0 [.bool false, .bool false, .bool false, .bool false, .bool false, .bool false, .bool false, .bool false, .int .i64 0]) := ⟨_, rfl⟩
  have HV : Hid (Blk V w1.heap.size [.int .i64 t0, .int .i64 t1, .int .i64 t2, .int .i64 t3, .slice po nn cc] 86 ∧ Blk V (w1.heap.size + 1) [.bool false, .bool false, .bool false, .bool false, .bool false, .bool false, .bool false, .bool false, .int .i64 0] 72 ∧ Below w1.heap.size w1 V) := by
    rw [← hV] at HV0
    exact HV0
  have TH : Hid (((w1.alloc (.cells #[.int .i64 0, .int .i64 0, .int .i64 0, .int .i64 0, .slice none 0 0] 86)).alloc (.cells #[.bool false, .bool false, .bool false, .bool false, .bool false, .bool false, .bool false, .bool false, .int .i64 0] 72)).there w1.heap.size 0 5 ∧ (((w1.alloc (.cells #[.int .i64 0, .int .i64 0, .int .i64 0, .int .i64 0, .slice none 0 0] 86)).alloc (.cells #[.bool false, .bool false, .bool false, .bool false, .bool false, .bool false, .bool false, .bool false, .int .i64 0] 72)).setCells w1.heap.size 0 [.int .i64 t0, .int .i64 t1, .int .i64 t2, .int .i64 t3, .slice po nn cc]).there (w1.heap.size + 1) 0 9) := TH0
  clear HV0 TH0
  have BW : Hid (Below W.heap.size W V) := below_then (below_then HB.out hb1) HV.out.2.2
  clear hb1 HB BA BR FC c0 c1 c2 c3 lA
  rename_i hcont
  refine hcont _ _ ?_
  clear hcont
  iterate 15 go_step
  refine store_pat w1.heap.size 0 #[.int .i64 t0, .int .i64 t1, .int .i64 t2, .int .i64 t3, .slice po nn cc] rfl rfl TH.out.1 (by kernel_rfl) (by simp [Value.oneCell']) ?_
  refine store_pat (w1.heap.size + 1) 0 #[.bool false, .bool false, .bool false, .bool false, .bool false, .bool false, .bool false, .bool false, .int .i64 0] rfl rfl TH.out.2 (by kernel_rfl) (by simp [Value.oneCell']) ?_
  simp only [List.toList_toArray]
  rw [← hV]
  clear hV TH
  go_upto_region 2 with fail
  generalize w1.heap.size + 1 = E at HV ⊢
  generalize w1.heap.size = T at HV ⊢
  have e0 : V.cell? ⟨E, 0, none⟩ = some (.bool false) := HV.out.2.1.cell 0
  have lE := HV.out.2.1.lt
  clear HV LO
  go_wp2_with fail
  go_returns
  exact ⟨rfl, BW.out⟩
set_option maxHeartbeats 2000000 in
theorem protect_walk1 {X : Nat → Prop} {W : World} {m : Pm} (k : Int) (root : Nat) (p : Int) (pa pb pc : Bool) (ff : Int) (Q : World → Prop)
    (FC : ∀ w : World, Below W.heap.size W w → Calls Tryd.prog 37 #[pv m k, .int .i64 root, .int .i64 p] w fun e w' => ∃ (t0 t1 t2 t3 : Int) (po : Option Addr) (nn cc : Nat) (b1 b2 b3 b4 b5 b6 b7 : Bool), e = .returned (.tuple #[.agg #[.int .i64 t0, .int .i64 t1, .int .i64 t2, .int .i64 t3, .slice po nn cc], .agg #[.bool true, .bool b1, .bool b2, .bool b3, .bool b4, .bool b5, .bool b6, .bool b7, .int .i64 ff]]) ∧ Below w.heap.size w w' ∧ (∀ w2 : World, Below W.heap.size W w2 → Below w'.heap.size w' w2 → Calls Tryd.prog 35 #[pv m k, .agg #[.int .i64 t0, .int .i64 t1, .int .i64 t2, .int .i64 t3, .slice po nn cc], ev true pa pb false false false false (!pc) ff] w2 fun e w' => e = .returned (.tuple #[]) ∧ Kx (XW X W w2) w2 w' ∧ Q w')) :
    Calls Tryd.prog 13 #[pv m k, .int .i64 root, .int .i64 p, .agg #[.bool pa, .bool pb, .bool pc]] W fun e w' => e = .returned (.int .i64 0) ∧ Q w' := by
  have FC : Hid (Calls Tryd.prog 37 #[pv m k, .int .i64 root, .int .i64 p] ((W.alloc (.cells #[pp m.rb, pp m.b, pp m.tb, .int .i64 k] 27)).alloc (.cells #[.bool pa, .bool pb, .bool pc] 38)) fun e w' => ∃ (t0 t1 t2 t3 : Int) (po : Option Addr) (nn cc : Nat) (b1 b2 b3 b4 b5 b6 b7 : Bool), e = .returned (.tuple #[.agg #[.int .i64 t0, .int .i64 t1, .int .i64 t2, .int .i64 t3, .slice po nn cc], .agg #[.bool true, .bool b1, .bool b2, .bool b3, .bool b4, .bool b5, .bool b6, .bool b7, .int .i64 ff]]) ∧ Below ((W.alloc (.cells #[pp m.rb, pp m.b, pp m.tb, .int .i64 k] 27)).alloc (.cells #[.bool pa, .bool pb, .bool pc] 38)).heap.size ((W.alloc (.cells #[pp m.rb, pp m.b, pp m.tb, .int .i64 k] 27)).alloc (.cells #[.bool pa, .bool pb, .bool pc] 38)) w' ∧ (∀ w2 : World, Below W.heap.size W w2 → Below w'.heap.size w' w2 → Calls Tryd.prog 35 #[pv m k, .agg #[.int .i64 t0, .int .i64 t1, .int .i64 t2, .int .i64 t3, .slice po nn cc], ev true pa pb false false false false (!pc) ff] w2 fun e w' => e = .returned (.tuple #[]) ∧ Kx (XW X W w2) w2 w' ∧ Q w')) := FC _ (below_then (Go.Joins.below_alloc1 _ _) (Go.Joins.below_alloc1 _ _))
  have LEC : Hid (∀ w : World, Calls Tryd.prog 36 #[.int .i64 ff, .agg #[.bool pa, .bool pb, .bool pc]] w fun e w' => e = .returned (ev true pa pb false false false false (!pc) ff) ∧ Below w.heap.size w w') := fun w => leaf_any ff pa pb pc w
  have s1 : (W.alloc (.cells #[pp m.rb, pp m.b, pp m.tb, .int .i64 k] 27)).heap.size = W.heap.size + 1 := World.size_alloc _ _
  have HB : Hid (Below W.heap.size W ((W.alloc (.cells #[pp m.rb, pp m.b, pp m.tb, .int .i64 k] 27)).alloc (.cells #[.bool pa, .bool pb, .bool pc] 38))) := below_then (Go.Joins.below_alloc1 _ _) (Go.Joins.below_alloc1 _ _)
  have BA : Hid (Blk ((W.alloc (.cells #[pp m.rb, pp m.b, pp m.tb, .int .i64 k] 27)).alloc (.cells #[.bool pa, .bool pb, .bool pc] 38)) W.heap.size [pp m.rb, pp m.b, pp m.tb, .int .i64 k] 27) := (Blk.made W [pp m.rb, pp m.b, pp m.tb, .int .i64 k] 27).below (Go.Joins.below_alloc1 _ _)
  have BR : Hid (Blk ((W.alloc (.cells #[pp m.rb, pp m.b, pp m.tb, .int .i64 k] 27)).alloc (.cells #[.bool pa, .bool pb, .bool pc] 38)) (W.heap.size + 1) [.bool pa, .bool pb, .bool pc] 38) := by
    rw [← s1]
    exact Blk.made _ [.bool pa, .bool pb, .bool pc] 38
  clear s1
  go_enter Tryd.func13, Tryd.ntmps13
  go_upto_region 1 with fail
  generalize ((W.alloc (.cells #[pp m.rb, pp m.b, pp m.tb, .int .i64 k] 27)).alloc (.cells #[.bool pa, .bool pb, .bool pc] 38)) = W1 at HB BA BR FC ⊢
  obtain ⟨R, hR⟩ : ∃ R, W.heap.size + 1 = R := ⟨_, rfl⟩
  obtain ⟨A, hA⟩ : ∃ A, W.heap.size = A := ⟨_, rfl⟩
  have LO : Hid (W.heap.size ≤ A ∧ W.heap.size ≤ R ∧ A ≠ R) := ⟨by omega, by omega, by omega⟩
  rw [hR] at BR ⊢
  rw [hA] at BA ⊢
  clear hR hA
  have BX := BA.out
  have c0 : W1.cell? ⟨A, 0, none⟩ = some (pp m.rb) := BX.cell 0
  have c1 : W1.cell? ⟨A, 1, none⟩ = some (pp m.b) := BX.cell 1
  have c2 : W1.cell? ⟨A, 2, none⟩ = some (pp m.tb) := BX.cell 2
  have c3 : W1.cell? ⟨A, 3, none⟩ = some (.int .i64 k) := BX.cell 3
  have lA := BX.lt
  clear BX
  go_wp2_with fail
  refine Calls.mono FC.out ?_
  rintro e w1 ⟨t0, t1, t2, t3, po, nn, cc, b1, b2, b3, b4, b5, b6, b7, rfl, hb1, hlk⟩
  have LKC : Hid (∀ w2 : World, Below W.heap.size W w2 → Below w1.heap.size w1 w2 → Calls Tryd.prog 35 #[pv m k, .agg #[.int .i64 t0, .int .i64 t1, .int .i64 t2, .int .i64 t3, .slice po nn cc], ev true pa pb false false false false (!pc) ff] w2 fun e w' => e = .returned (.tuple #[]) ∧ Kx (XW X W w2) w2 w' ∧ Q w') := hlk
  clear hlk
  obtain ⟨HV0, TH0⟩ := two_boxes w1 [.int .i64 t0, .int .i64 t1, .int .i64 t2, .int .i64 t3, .slice po nn cc] [.bool true, .bool b1, .bool b2, .bool b3, .bool b4, .bool b5, .bool b6, .bool b7, .int .i64 ff] rfl rfl
  obtain ⟨V, hV⟩ : ∃ V, V = ((((w1.alloc (.cells #[.int .i64 0, .int .i64 0, .int .i64 0, .int .i64 0, .slice none 0 0] 86)).alloc (.cells #[.bool false, .bool false, .bool false, .bool false, .bool false, .bool false, .bool false, .bool false, .int .i64 0] 72)).setCells w1.heap.size 0 [.int .i64 t0, .int .i64 t1, .int .i64 t2, .int .i64 t3, .slice po nn cc]).setCells (w1.heap.size + 1) 0 [.bool true, .bool b1, .bool b2, .bool b3, .bool b4, .bool b5, .bool b6, .bool b7, .int .i64 ff]) := ⟨_, rfl⟩
  have HV : Hid (Blk V w1.heap.size [.int .i64 t0, .int .i64 t1, .int .i64 t2, .int .i64 t3, .slice po nn cc] 86 ∧ Blk V (w1.heap.size + 1) [.bool true, .bool b1, .bool b2, .bool b3, .bool b4, .bool b5, .bool b6, .bool b7, .int .i64 ff] 72 ∧ Below w1.heap.size w1 V) := by
    rw [← hV] at HV0
    exact HV0
  have TH : Hid (((w1.alloc (.cells #[.int .i64 0, .int .i64 0, .int .i64 0, .int .i64 0, .slice none 0 0] 86)).alloc (.cells #[.bool false, .bool false, .bool false, .bool false, .bool false, .bool false, .bool false, .bool false, .int .i64 0] 72)).there w1.heap.size 0 5 ∧ (((w1.alloc (.cells #[.int .i64 0, .int .i64 0, .int .i64 0, .int .i64 0, .slice none 0 0] 86)).alloc (.cells #[.bool false, .bool false, .bool false, .bool false, .bool false, .bool false, .bool false, .bool false, .int .i64 0] 72)).setCells w1.heap.size 0 [.int .i64 t0, .int .i64 t1, .int .i64 t2, .int .i64 t3, .slice po nn cc]).there (w1.heap.size + 1) 0 9) := TH0
  clear HV0 TH0
  have BW : Hid (Below W.heap.size W V ∧ Below w1.heap.size w1 V) := ⟨below_then (below_then HB.out hb1) HV.out.2.2, HV.out.2.2⟩
  have BRV : Hid (Blk V R [.bool pa, .bool pb, .bool pc] 38) := (BR.out.below hb1).below HV.out.2.2
  have BAV : Hid (Blk V A [pp m.rb, pp m.b, pp m.tb, .int .i64 k] 27) := (BA.out.below hb1).below HV.out.2.2
  have LL : Hid (W.heap.size ≤ A ∧ W.heap.size ≤ w1.heap.size ∧ W.heap.size ≤ w1.heap.size + 1 ∧ W.heap.size ≤ R) := by have := HB.out.size; have := hb1.size; exact ⟨LO.out.1, by omega, by omega, LO.out.2.1⟩
  clear hb1 HB BA BR FC LO c0 c1 c2 c3 lA
  rename_i hcont
  refine hcont _ _ ?_
  clear hcont
  iterate 15 go_step
  refine store_pat w1.heap.size 0 #[.int .i64 t0, .int .i64 t1, .int .i64 t2, .int .i64 t3, .slice po nn cc] rfl rfl TH.out.1 (by kernel_rfl) (by simp [Value.oneCell']) ?_
  refine store_pat (w1.heap.size + 1) 0 #[.bool true, .bool b1, .bool b2, .bool b3, .bool b4, .bool b5, .bool b6, .bool b7, .int .i64 ff] rfl rfl TH.out.2 (by kernel_rfl) (by simp [Value.oneCell']) ?_
  simp only [List.toList_toArray]
  rw [← hV]
  clear hV TH
  go_upto_region 2 with fail
  generalize w1.heap.size + 1 = E at HV LL ⊢
  obtain ⟨T, hT⟩ : ∃ T, w1.heap.size = T := ⟨_, rfl⟩
  rw [hT] at HV LL ⊢
  clear hT
  have e0 : V.cell? ⟨E, 0, none⟩ = some (.bool true) := HV.out.2.1.cell 0
  have lE := HV.out.2.1.lt
  have BA2 : Hid ((fun cw => Blk cw A [pp m.rb, pp m.b, pp m.tb, .int .i64 k] 27 ∧ Blk cw T [.int .i64 t0, .int .i64 t1, .int .i64 t2, .int .i64 t3, .slice po nn cc] 86 ∧ Blk cw E [.bool true, .bool b1, .bool b2, .bool b3, .bool b4, .bool b5, .bool b6, .bool b7, .int .i64 ff] 72 ∧ Blk cw R [.bool pa, .bool pb, .bool pc] 38) V) := ⟨BAV.out, HV.out.1, HV.out.2.1, BRV.out⟩
  clear BAV BRV HV
  go_upto_region 4 with fail
  clear e0 lE
  refine wp_region_noPanic ?_
  refine wp_region_held_drew (S := fun cw => Blk cw A [pp m.rb, pp m.b, pp m.tb, .int .i64 k] 27 ∧ Blk cw T [.int .i64 t0, .int .i64 t1, .int .i64 t2, .int .i64 t3, .slice po nn cc] 86 ∧ Blk cw E [.bool true, .bool b1, .bool b2, .bool b3, .bool b4, .bool b5, .bool b6, .bool b7, .int .i64 ff] 72 ∧ Blk cw R [.bool pa, .bool pb, .bool pc] 38) (by kernel_rfl) ?_ (fun hHeld => ?_)
  · exact BA2.out
  have BU : Hid (Below W.heap.size W V.drew ∧ Below w1.heap.size w1 V.drew) := ⟨below_drew BW.out.1, below_drew BW.out.2⟩
  clear BA2 BW
  generalize V.drew = U at hHeld BU ⊢
  refine wpAnyH_take (i := 0) (oi := ⟨some 21, _, _, _, _, none⟩) (v := (.agg #[pp m.rb, pp m.b, pp m.tb, .int .i64 k])) rfl (by kernel_rfl) (by kernel_rfl) (by kernel_rfl) (fun _ _ _ h => h) (Or.inl ⟨by rfl, ?_⟩) (by assumption) ?_
  · intro w hSw; (try dsimp only at hSw); have r0 := Blk.cell hSw.1 0; have r1 := Blk.cell hSw.1 1; have r2 := Blk.cell hSw.1 2; have r3 := Blk.cell hSw.1 3; (try go_simp); (try simp [*])
  try simp only [Act.put, List.setIfInBounds_toArray, List.set_cons_zero, List.set_cons_succ]
  refine wpAnyH_take (i := 1) (oi := ⟨some 22, _, _, _, _, none⟩) (v := (.agg #[.int .i64 t0, .int .i64 t1, .int .i64 t2, .int .i64 t3, .slice po nn cc])) rfl (by kernel_rfl) (by kernel_rfl) (by kernel_rfl) (fun _ _ _ h => h) (Or.inl ⟨by rfl, ?_⟩) (by assumption) ?_
  · intro w hSw; (try dsimp only at hSw); have r0 := Blk.cell hSw.2.1 0; have r1 := Blk.cell hSw.2.1 1; have r2 := Blk.cell hSw.2.1 2; have r3 := Blk.cell hSw.2.1 3; have r4 := Blk.cell hSw.2.1 4; (try go_simp); (try simp [*])
  try simp only [Act.put, List.setIfInBounds_toArray, List.set_cons_zero, List.set_cons_succ]
  refine wpAnyH_take (i := 2) (oi := ⟨some 23, _, _, _, _, none⟩) (v := ?_) rfl (by kernel_rfl) (by kernel_rfl) (by kernel_rfl) (fun _ _ _ h => h) (Or.inl ⟨by rfl, ?_⟩) (by assumption) ?_
  rotate_left
  · intro w hSw; (try dsimp only at hSw); go_simp; (try with_reducible rfl)
  try simp only [Act.put, List.setIfInBounds_toArray, List.set_cons_zero, List.set_cons_succ]
  refine wpAnyH_take (i := 3) (oi := ⟨some 24, _, _, _, _, none⟩) (v := (.int .i64 ff)) rfl (by kernel_rfl) (by kernel_rfl) (by kernel_rfl) (fun _ _ _ h => h) (Or.inl ⟨by rfl, ?_⟩) (by assumption) ?_
  · intro w hSw; (try dsimp only at hSw); have r := Blk.cell hSw.2.2.1 8; (try go_simp); (try simp [*])
  try simp only [Act.put, List.setIfInBounds_toArray, List.set_cons_zero, List.set_cons_succ]
  refine wpAnyH_take (i := 4) (oi := ⟨some 25, _, _, _, _, none⟩) (v := (.agg #[.bool pa, .bool pb, .bool pc])) rfl (by kernel_rfl) (by kernel_rfl) (by kernel_rfl) (fun _ _ _ h => h) (Or.inl ⟨by rfl, ?_⟩) (by assumption) ?_
  · intro w hSw; (try dsimp only at hSw); have r0 := Blk.cell hSw.2.2.2 0; have r1 := Blk.cell hSw.2.2.2 1; have r2 := Blk.cell hSw.2.2.2 2; (try go_simp); (try simp [*])
  try simp only [Act.put, List.setIfInBounds_toArray, List.set_cons_zero, List.set_cons_succ]
  refine wpAnyH_ready (rs := [5]) (by kernel_rfl) (by simp) ?_
  refine AllReadyH.cons (o := ⟨some 26, _, _, _, _, none⟩) rfl (fun K hK => ?_) AllReadyH.nil
  go_simp
  go_wp2_with (go_at_call 36; refine Calls.mono (LEC.out _) ?_; rintro e u1 ⟨rfl, hb1⟩)
  have BU1 : Hid (Below W.heap.size W u1 ∧ Below w1.heap.size w1 u1) := ⟨below_then BU.out.1 hb1, below_then BU.out.2 hb1⟩
  refine hK.out _ _ ⟨hHeld.1.below hb1, hHeld.2.1.below hb1, hHeld.2.2.1.below hb1, hHeld.2.2.2.below hb1⟩ (fun hHeld2 => ?_)
  clear hK K hHeld hb1 BU
  have hHeld := hHeld2
  clear hHeld2
  try simp only [Act.put, List.setIfInBounds_toArray, List.set_cons_zero, List.set_cons_succ]
  refine wpAnyH_ready (rs := [6]) (by kernel_rfl) (by simp) ?_
  refine AllReadyH.cons (o := ⟨some 27, _, _, _, _, none⟩) rfl (fun K hK => ?_) AllReadyH.nil
  go_simp
  go_wp2_with (go_at_call 35; refine Calls.mono (LKC.out _ BU1.out.1 BU1.out.2) ?_; rintro e u2 ⟨rfl, hk, hq⟩)
  have E2 : Hid (Q u2) := hq
  refine hK.out _ _ ⟨hHeld.1.kx hk (Or.inr ⟨LL.out.1, hHeld.1.lt⟩), hHeld.2.1.kx hk (Or.inr ⟨LL.out.2.1, hHeld.2.1.lt⟩), hHeld.2.2.1.kx hk (Or.inr ⟨LL.out.2.2.1, hHeld.2.2.1.lt⟩), hHeld.2.2.2.kx hk (Or.inr ⟨LL.out.2.2.2, hHeld.2.2.2.lt⟩)⟩ (fun hHeld2 => ?_)
  clear hK K hHeld hk hq BU1
  have hHeld := hHeld2
  clear hHeld2
  try simp only [Act.put, List.setIfInBounds_toArray, List.set_cons_zero, List.set_cons_succ]
  clear hHeld
  refine wpAnyH_done (by kernel_rfl) ?_ _
  refine NoPanic.normal ?_
  go_wp2_with fail
  go_returns
  exact ⟨rfl, E2.out⟩
end Go.Proofs.YtkiclbnbnjbcaabDoor.Tt
namespace Go.Proofs.YtkiclbnbnjbcaabDoor.Tt
open Go.ChangeShapes Go.WideShapes Go.ChangeAt Go.RowKit Go.Maps
set_option linter.unusedSimpArgs false
set_option linter.unusedVariables false
set_option maxRecDepth 8000

/-- a page leads elsewhere or may be used otherwise; its tables are as they were -/
def Reset (X : Nat → Prop) (W : World) (m : Pm) (s : Ps) (root : Nat) (tab : Nat → Nat → Option Nat) (lf : Nat → Option Lf) (p : Nat) (v : Lf) (w' : World) : Prop :=
  ∃ M' : Int → Int, Pu X w' m { s with M := M', q := s.q + 2 } ∧ Kx X W w' ∧ Rt m { s with M := M', q := s.q + 2 } root tab (lfSet lf p (some v)) ∧ ∀ f : Nat, (∀ l x, tab l x ≠ some f) → ∀ j : Nat, j < 512 → En M' f j = En s.M f j
theorem full_set {tab : Nat → Nat → Option Nat} {lf : Nat → Option Lf} (fu : Full tab lf) (p : Nat) (v : Lf) : Full tab (lfSet lf p (some v)) := fun l x f l4 e => by
  obtain ⟨p', hp', e'⟩ := fu l x f l4 e
  refine ⟨p', ?_, e'⟩
  by_cases c : p' = p
  · rw [c, lf_same]; rfl
  · rw [lf_other c]; exact hp'
theorem rt_set {m : Pm} {s : Ps} {root : Nat} {tab : Nat → Nat → Option Nat} {lf : Nat → Option Lf} (H : Rt m s root tab lf) {p g : Nat} {v : Lf} (hp : p < 34359738368) (hg : tab 1 (p / 512) = some g) (hv : 0 ≤ v.f ∧ v.f < 1048576) (q : Nat) :
    Rt m { s with M := enSet s.M g (atP p 3) (leafV false false v), q := q } root tab (lfSet lf p (some v)) ∧ ∀ f : Nat, (∀ l x, tab l x ≠ some f) → ∀ j : Nat, j < 512 → En (enSet s.M g (atP p 3) (leafV false false v)) f j = En s.M f j :=
  ⟨⟨H.pw.setLeaf hp hg hv, full_set H.fu p v, H.ow⟩, fun f h1 j hj => by
    have fg : f ≠ g := fun q => h1 _ _ (by rw [q]; exact hg)
    exact en_other s.M _ (at_bd p 3).1 (at_bd p 3).2 (by omega) (by omega) (Or.inl (by omega))⟩
/-- Protect of what is no page -/
theorem protect_bad (m : Pm) (k : Int) (root : Nat) (p : Int) (pa pb pc : Bool) (hbad : ¬ (0 ≤ p ∧ p < 34359738368)) (W : World) :
    Calls Tryd.prog 13 #[pv m k, .int .i64 root, .int .i64 p, .agg #[.bool pa, .bool pb, .bool pc]] W fun e w' => e = .returned (.int .i64 5) ∧ Below W.heap.size W w' := by
  refine protect_walk0 k root p pa pb pc (fun w _ => (find_bad m k root p hbad w).mono ?_)
  rintro e' w' ⟨rfl, hb'⟩
  exact ⟨_, _, _, _, _, _, _, rfl, hb'⟩
/-- Protect of a page that leads nowhere -/
theorem protect_none {X : Nat → Prop} {W : World} {m : Pm} {s : Ps} (h : Pu X W m s) {root : Nat} {tab : Nat → Nat → Option Nat} {lf : Nat → Option Lf} (H : Rt m s root tab lf) (k : Int) (p : Nat) (e : lf p = none) (pa pb pc : Bool) :
    Calls Tryd.prog 13 #[pv m k, .int .i64 root, .int .i64 p, .agg #[.bool pa, .bool pb, .bool pc]] W fun e w' => e = .returned (.int .i64 5) ∧ Below W.heap.size W w' := by
  by_cases hp : p < 34359738368
  · refine protect_walk0 k root p pa pb pc (fun w hb => (find_any (h.below hb) H k p hp).mono ?_)
    rintro e' w' ⟨g, c, n, L, y, rfl, ⟨_, _, _, _, _, _, q | ⟨v, q, _⟩⟩, hb'⟩
    · rw [q.2, unp_zero]
      exact ⟨_, _, _, _, _, _, _, rfl, hb'⟩
    · rw [e] at q; cases q
  · exact protect_bad m k root p pa pb pc (fun q => hp (by omega)) W
/-- Protect of a page that leads somewhere -/
theorem protect_ok {X : Nat → Prop} {W : World} {m : Pm} {s : Ps} (h : Pu X W m s) {root : Nat} {tab : Nat → Nat → Option Nat} {lf : Nat → Option Lf} (H : Rt m s root tab lf) (k : Int) (p : Nat) (v : Lf) (e : lf p = some v) (pa pb pc : Bool) (hq : s.q < 4000000000000000000) :
    Calls Tryd.prog 13 #[pv m k, .int .i64 root, .int .i64 p, .agg #[.bool pa, .bool pb, .bool pc]] W fun e w' => e = .returned (.int .i64 0) ∧ Reset X W m s root tab lf p ⟨v.f, pa, pb, pc⟩ w' := by
  have hp := (H.pw.lf1 p v e).1
  refine protect_walk1 (X := X) k root p pa pb pc v.f _ (fun w hb => (find_any (h.below hb) H k p hp).mono ?_)
  rintro e' w' ⟨g, c, n, L, y, rfl, ⟨hr, hl, gl, _, T, hh, q | ⟨v', q, mk, n4⟩⟩, hb'⟩
  · rw [e] at q; cases q.1
  · rw [e] at q
    cases q
    obtain ⟨hv, a, d, rfl⟩ := mk
    unfold leafV
    rw [unp_pack _ _ _ _ _ _ _ _ _ hv.1 hv.2]
    refine ⟨_, _, _, _, _, _, _, _, _, _, _, _, _, _, rfl, hb', fun w2 b2 b3 => ?_⟩
    have l4 : L.length = 4 := by omega
    obtain ⟨g3, hg3⟩ : ∃ g3, L[3]'(by omega) = g3 := ⟨_, rfl⟩
    have tg : tab 1 (p / 512) = some g3 := T.is 3 g3 (by rw [← hg3]; exact List.getElem?_eq_getElem (by omega))
    have hx : m.has (L[3]'(by omega) : Nat) = true := hh _ (List.getElem_mem _)
    have gw : W.heap.size ≤ g := Nat.le_trans hb.size gl
    have r2 := hr.below b3
    have lk := link_n (h.grow b2) (by omega) k (atP p) g c L 3 n (by omega) (by omega) (by omega) hx (at_bd p 3) r2 (Or.inr ⟨gw, r2.1⟩) true pa pb false false false false (!pc) v.f hv.1 hv.2
    refine Calls.mono lk ?_
    rintro e w' ⟨rfl, hp', hk'⟩
    rw [hg3] at hp'
    have rs := rt_set H hp tg (v := ⟨v.f, pa, pb, pc⟩) hv (s.q + 2)
    exact ⟨rfl, hk', _, pu_of h hp', kx_of h b2 hk', rs.1, rs.2⟩
end Go.Proofs.YtkiclbnbnjbcaabDoor.Tt
namespace Go.Proofs.YtkiclbnbnjbcaabDoor.Tt
open Go.ChangeShapes Go.WideShapes Go.ChangeAt Go.RowKit Go.Maps
set_option linter.unusedSimpArgs false
set_option linter.unusedVariables false
set_option maxRecDepth 8000

theorem lt_of_cell {w : World} {a : Addr} {v : Value} (h : w.cell? a = some v) : a.block < w.heap.size := by
  unfold World.cell? at h
  by_cases c : a.block < w.heap.size
  · exact c
  · rw [Array.getElem?_eq_none (by omega)] at h
    simp at h
structure B3 where
  x : Bool
  y : Bool
  z : Bool
abbrev B3.val (s : B3) : Value := .agg #[.bool s.x, .bool s.y, .bool s.z]
theorem cellsPm : Tryd.prog.cellsOf 38 = 3 := by kernel_rfl
theorem perm_cells {H : Type} {enc : TypeId × Value → H} {W : World} {base : Nat} {sp : Nat → Bool} {held : Bool} {x : DataW H} {ps : List MemPlace} {fuel : Nat} {cs : List Value} (hf : DataW.trod enc Tryd.prog W base sp held fuel 38 cs = some (x, ps)) (hl : cs.length = 3) :
    ∃ (a0 : Bool) (a1 : Bool) (a2 : Bool), cs = [.bool a0, .bool a1, .bool a2] ∧ True := by
  obtain ⟨c0, c1, c2, hcs⟩ : ∃ c0 c1 c2, cs = [c0, c1, c2] := by
    revert hl
    match cs with
    | [c0, c1, c2] => intro _; exact ⟨c0, c1, c2, rfl⟩
    | [] => intro q; cases q
    | [_] => intro q; cases q
    | [_, _] => intro q; cases q
    | _ :: _ :: _ :: _ :: _ => intro q; simp at q
  subst hcs
  obtain ⟨zs, m, _, _, jl, jlen, jf⟩ := DataW.trod_struct Tryd.underlying38 hf
  have jg : ∀ i, i < 3 → ∃ y, zs[i]? = some y := fun i hi => ⟨_, List.getElem?_eq_getElem (by rw [jlen]; exact hi)⟩
  obtain ⟨⟨z0a, z0b⟩, m0⟩ := jg 0 (by omega)
  obtain ⟨b0, e0, _⟩ := DataW.trod_bool Tryd.underlying4 ((jf 0 _ rfl).trans m0)
  obtain rfl := cell_of cellsB e0 (c := c0) (by first | rfl | (rw [cellsB]; rfl))
  obtain ⟨⟨z1a, z1b⟩, m1⟩ := jg 1 (by omega)
  obtain ⟨b1, e1, _⟩ := DataW.trod_bool Tryd.underlying4 ((jf 1 _ rfl).trans m1)
  obtain rfl := cell_of cellsB e1 (c := c1) (by first | rfl | (rw [cellsB]; rfl))
  obtain ⟨⟨z2a, z2b⟩, m2⟩ := jg 2 (by omega)
  obtain ⟨b2, e2, _⟩ := DataW.trod_bool Tryd.underlying4 ((jf 2 _ rfl).trans m2)
  obtain rfl := cell_of cellsB e2 (c := c2) (by first | rfl | (rw [cellsB]; rfl))
  exact ⟨_, _, _, rfl, trivial⟩
theorem open_pm3 {H : Type} {enc : TypeId × Value → H} {W : World} {base : Nat} {sp : Nat → Bool} {held : Bool} {r : Reach} {b0 : Nat} {v : Value} {x : DataW H} {ps : List MemPlace}
    (hv : Value.okWide Tryd.prog W r b0 38 v) (h : DataW.Trod enc Tryd.prog W base sp held 38 v x ps) : ∃ s : B3, v = s.val ∧ True := by
  obtain ⟨cs, rfl, hsz⟩ := okWide_struct Tryd.underlying38 hv
  obtain ⟨fuel, hf⟩ := h
  have hf2 : DataW.trod enc Tryd.prog W base sp held fuel 38 cs.toList = some (x, ps) := hf
  obtain ⟨a0, a1, a2, e, _⟩ := perm_cells hf2 (by rw [Array.length_toList]; exact hsz.trans cellsPm)
  refine ⟨⟨a0, a1, a2⟩, ?_, trivial⟩
  show Value.agg cs = Value.agg _
  rw [← Array.toArray_toList (xs := cs), e]
end Go.Proofs.YtkiclbnbnjbcaabDoor.Tt
namespace Go.Proofs.YtkiclbnbnjbcaabDoor.Tt
open Go.ChangeShapes Go.WideShapes Go.ChangeAt Go.RowKit Go.Maps
set_option linter.unusedSimpArgs false
set_option linter.unusedVariables false
set_option maxRecDepth 8000

/-- a purse with one root behind i calls: a frames more are used -/
def Went (X : Nat → Prop) (m : Pm) (root : Nat) (i : Nat) (w : World) : Prop :=
  ∃ (a : Nat) (s : Ps) (tab : Nat → Nat → Option Nat) (lf : Nat → Option Lf), a ≤ 3 * i ∧ s.q ≤ 6000 + 10 * i ∧ Pu X w m s ∧ Nums m s 0 (87 - (a : Int)) (3 + (a : Int)) (86 - a) ∧ Rt m s root tab lf
theorem miss_le (tab : Nat → Nat → Option Nat) (p : Nat) : miss tab p ≤ 3 := by
  unfold miss
  split
  · omega
  · split
    · omega
    · split <;> omega
theorem went_map {X : Nat → Prop} {W : World} {m : Pm} {root i : Nat} (h : Went X m root i W) (i20 : i < 20) (p fr : Int) (pa pb pc : Bool) :
    Calls Tryd.prog 11 #[pv m 0, .int .i64 root, .int .i64 p, .int .i64 fr, .agg #[.bool pa, .bool pb, .bool pc]] W fun e w' => ∃ z : Int, e = .returned (.int .i64 z) ∧ Went X m root (i + 1) w' ∧ Kx X W w' := by
  obtain ⟨a, s, tab, lf, ha, hq, hp, hn, hr⟩ := h
  by_cases hb : 0 ≤ p ∧ p < 34359738368 ∧ 0 ≤ fr ∧ fr < 1048576
  rotate_left
  · refine (map_arg m 0 root p fr pa pb pc hb W).mono ?_
    rintro e w' ⟨rfl, hb'⟩
    exact ⟨1, rfl, ⟨a, s, tab, lf, by omega, by omega, hp.below hb', hn, hr⟩, Kx.of_below hp hb'⟩
  · obtain ⟨p0, p1, f0, f1⟩ := hb
    obtain ⟨pn, rfl⟩ := Int.eq_ofNat_of_zero_le p0
    cases ht : lf pn with
    | some v =>
      refine (map_there hp hr 0 pn (by omega) fr ⟨f0, f1⟩ pa pb pc (by rw [ht]; simp)).mono ?_
      rintro e w' ⟨rfl, hb'⟩
      exact ⟨6, rfl, ⟨a, s, tab, lf, by omega, by omega, hp.below hb', hn, hr⟩, Kx.of_below hp hb'⟩
    | none =>
      have ml := miss_le tab pn
      refine (map_ok hp hr 0 (hn.box (by omega)) pn (by omega) fr ⟨f0, f1⟩ pa pb pc ht (by omega) (by rw [hn.room]; omega)).mono ?_
      rintro e w' ⟨rfl, Lm, M6, tab6, hl6, IN6, hp6, hk6, pw6, fu6, new6, _⟩
      have N6 := hn.take hp.so IN6 M6 (s.q + 10)
      have R6 := rt_mapped (k := 0) (q := s.q + 10) hp.so hr IN6 pw6 fu6 new6
      refine ⟨0, rfl, ⟨a + Lm.length, _, tab6, _, by omega, ?_, hp6, ?_, R6⟩, hk6⟩
      · show s.q + 10 ≤ _; omega
      · have e1 : (87 : Int) - (a : Int) - (Lm.length : Int) = 87 - ((a + Lm.length : Nat) : Int) := by omega
        have e2 : (3 : Int) + (a : Int) + (Lm.length : Int) = 3 + ((a + Lm.length : Nat) : Int) := by omega
        have e3 : 86 - a - Lm.length = 86 - (a + Lm.length) := by omega
        rw [e1, e2, e3] at N6
        exact N6
end Go.Proofs.YtkiclbnbnjbcaabDoor.Tt
namespace Go.Proofs.YtkiclbnbnjbcaabDoor.Tt
open Go.ChangeShapes Go.WideShapes Go.ChangeAt Go.RowKit Go.Maps
set_option linter.unusedSimpArgs false
set_option linter.unusedVariables false
set_option maxRecDepth 8000

theorem miss_zero {M : Int → Int} {root : Nat} {tab : Nat → Nat → Option Nat} {lf : Nat → Option Lf} (H : PW M root tab lf) {p f : Nat} (h : tab 1 (p / 512) = some f) : miss tab p = 0 := by
  obtain ⟨g2, h2, _⟩ := H.up 1 _ f (by omega) h
  obtain ⟨g3, h3, _⟩ := H.up 2 _ g2 (by omega) h2
  have e1 : tab 1 (pre 1 p) = some f := h
  have e2 : tab 2 (pre 2 p) = some g2 := h2
  have e3 : tab 3 (pre 3 p) = some g3 := h3
  unfold miss
  rw [if_neg (by rw [e3]; simp), if_neg (by rw [e2]; simp), if_neg (by rw [e1]; simp)]
/-- i pages from base on lead to the frames 0, 1, ..; a purse of 20 -/
def Near (X : Nat → Prop) (m : Pm) (root base i : Nat) (w : World) : Prop :=
  ∃ (s : Ps) (tab : Nat → Nat → Option Nat) (lf : Nat → Option Lf), s.q ≤ 6000 + 10 * i ∧ Pu X w m s ∧ Rt m s root tab lf ∧
    (∀ p, lf p = if base ≤ p ∧ p < base + i then some ⟨((p - base : Nat) : Int), false, true, false⟩ else none) ∧
    ((i = 0 ∧ tab = tab1 root ∧ Nums m s 0 17 3 16) ∨ (1 ≤ i ∧ (∃ f, tab 1 (base / 512) = some f) ∧ Nums m s 0 14 6 13))
theorem near_map {X : Nat → Prop} {W : World} {m : Pm} {root base i : Nat} (h : Near X m root base i W) (hb : base + i < 34359738368) (hi : base % 512 + i < 512) (i2 : i < 512) :
    Calls Tryd.prog 11 #[pv m 0, .int .i64 root, .int .i64 ((base + i : Nat) : Int), .int .i64 (i : Nat), .agg #[.bool false, .bool true, .bool false]] W fun e w' => e = .returned (.int .i64 0) ∧ Near X m root base (i + 1) w' ∧ Kx X W w' := by
  obtain ⟨s, tab, lf, hq, hp, hr, hlf, hc⟩ := h
  have ht : lf (base + i) = none := by rw [hlf, if_neg (by omega)]
  have e512 : (base + i) / 512 = base / 512 := by omega
  obtain ⟨r, u, f, mi, hn, hbx, hmr, c1⟩ : ∃ (r u : Int) (f mi : Nat), Nums m s 0 r u f ∧ (10 ≤ f ∨ r ≤ f) ∧ (miss tab (base + i) = mi ∧ (mi : Int) ≤ r) ∧ (r - mi = 14 ∧ u + mi = 6 ∧ f - mi = 13) := by
    rcases hc with ⟨i0, ht1, hn⟩ | ⟨i1, ⟨f, hf⟩, hn⟩
    · exact ⟨17, 3, 16, 3, hn, by omega, ⟨by rw [ht1]; exact miss_root _ _, by omega⟩, by omega⟩
    · exact ⟨14, 6, 13, 0, hn, by omega, ⟨miss_zero hr.pw (by rw [e512]; exact hf), by omega⟩, by omega⟩
  refine (map_ok hp hr 0 (hn.box hbx) (base + i) hb i ⟨by omega, by omega⟩ false true false ht (by omega) (by rw [hn.room, hmr.1]; exact hmr.2)).mono ?_
  rintro e w' ⟨rfl, Lm, M6, tab6, hl6, IN6, hp6, hk6, pw6, fu6, new6, _⟩
  have N6 := hn.take hp.so IN6 M6 (s.q + 10)
  have R6 := rt_mapped (k := 0) (q := s.q + 10) hp.so hr IN6 pw6 fu6 new6
  rw [hl6, hmr.1, c1.1, c1.2.1, c1.2.2] at N6
  refine ⟨rfl, ⟨_, tab6, _, ?_, hp6, R6, fun p => ?_, Or.inr ⟨by omega, ?_, N6⟩⟩, hk6⟩
  · show s.q + 10 ≤ _; omega
  · by_cases c : p = base + i
    · subst c
      rw [lf_same, if_pos (by omega)]
      simp
    · rw [lf_other c, hlf]
      by_cases c2 : base ≤ p ∧ p < base + i
      · rw [if_pos c2, if_pos (by omega)]
      · rw [if_neg c2, if_neg (by omega)]
  · obtain ⟨_, g, hg, _⟩ := pw6.lf1 (base + i) _ (lf_same _ _ _)
    rw [e512] at hg
    exact ⟨g, hg⟩
end Go.Proofs.YtkiclbnbnjbcaabDoor.Tt
