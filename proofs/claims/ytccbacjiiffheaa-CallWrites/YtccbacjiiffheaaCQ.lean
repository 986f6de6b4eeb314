/- spell: the words of a call. -/
import Derived.Test.YtccbacjiiffheaaCP
import Derived.BigRegion
namespace Go.Proofs.Ytccbacjiiffheaa
open Go.ChangeShapes Go.WideShapes Go.ChangeAt Go.RowKit Go.Maps
set_option linter.unusedSimpArgs false
set_option linter.unusedVariables false

set_option maxHeartbeats 4000000 in
theorem spell1tt (c1 c2 c6 c7 c8 c9 c10 c11 c12 : Int) (c4 : Bool)  (w : World) : Calls Try.prog 26 #[.agg #[.int .i64 1, .int .i64 c1, .int .i64 c2, .bool true, .bool c4, .bool true, .int .u64 c6, .int .i64 c7, .int .u64 c8, .int .i64 c9, .int .i64 c10, .int .i64 c11, .int .i64 c12]] w fun e w' => e = .returned (.agg #[.int .u64 1, .int .u64 (IntKind.u64.wrap c1), .int .u64 (IntKind.u64.wrap (wrap64 (c2 - c1))), .int .u64 (3), .int .u64 0, .int .u64 0]) ∧ Below w.heap.size w w' := by
  have B1 : Hid (∀ W : World, Calls Try.prog 39 #[.bool true, .int .u64 1] W fun e w' => e = .returned (.int .u64 1) ∧ w' = W) := fun W => bit_any true 1 W
  have B2 : Hid (∀ W : World, Calls Try.prog 39 #[.bool true, .int .u64 2] W fun e w' => e = .returned (.int .u64 2) ∧ w' = W) := fun W => bit_any true 2 W
  have ZR : ∀ n : Nat, Hid (Blk (((w.alloc (.cells #[.int .i64 1, .int .i64 c1, .int .i64 c2, .bool true, .bool c4, .bool true, .int .u64 c6, .int .i64 c7, .int .u64 c8, .int .i64 c9, .int .i64 c10, .int .i64 c11, .int .i64 c12] 30)).alloc (.cells #[.int .u64 0, .int .u64 0, .int .u64 0, .int .u64 0, .int .u64 0, .int .u64 0] 24)).drewN n) (w.heap.size + 1) [.int .u64 0, .int .u64 0, .int .u64 0, .int .u64 0, .int .u64 0, .int .u64 0] 24) := fun n => by
    have := Blk.made (w.alloc (.cells #[.int .i64 1, .int .i64 c1, .int .i64 c2, .bool true, .bool c4, .bool true, .int .u64 c6, .int .i64 c7, .int .u64 c8, .int .i64 c9, .int .i64 c10, .int .i64 c11, .int .i64 c12] 30)) [.int .u64 0, .int .u64 0, .int .u64 0, .int .u64 0, .int .u64 0, .int .u64 0] 24
    rw [World.size_alloc] at this; exact this
  have BR : ∀ n : Nat, Hid (Below w.heap.size w (World.setCells (((w.alloc (.cells #[.int .i64 1, .int .i64 c1, .int .i64 c2, .bool true, .bool c4, .bool true, .int .u64 c6, .int .i64 c7, .int .u64 c8, .int .i64 c9, .int .i64 c10, .int .i64 c11, .int .i64 c12] 30)).alloc (.cells #[.int .u64 0, .int .u64 0, .int .u64 0, .int .u64 0, .int .u64 0, .int .u64 0] 24)).drewN n) (w.heap.size + 1) 0 [.int .u64 1, .int .u64 (IntKind.u64.wrap c1), .int .u64 (IntKind.u64.wrap (wrap64 (c2 - c1))), .int .u64 (3), .int .u64 0, .int .u64 0])) := fun n => below_scs (below_drewN0 (Go.Joins.below_alloc2 _ _ _)) (by omega) _ _
  go_enter Try.func26, Try.ntmps26
  go_wp2_with fail
  go_quiet (fail)
  go_wp2_with fail
  go_quiet (fail)
  go_wp2_with fail
  go_region_with (first | (refine (B1.out _).mono ?_; rintro e u ⟨rfl, hu⟩; subst hu) | (refine (B2.out _).mono ?_; rintro e u ⟨rfl, hu⟩; subst hu))
  all_goals (go_wp2_with fail)
  all_goals (exact spell_end w _ _ _ _ _ _ _ _ (ZR _).out (BR _).out rfl)
set_option maxHeartbeats 4000000 in
theorem spell1tf (c1 c2 c6 c7 c8 c9 c10 c11 c12 : Int) (c4 : Bool)  (w : World) : Calls Try.prog 26 #[.agg #[.int .i64 1, .int .i64 c1, .int .i64 c2, .bool true, .bool c4, .bool false, .int .u64 c6, .int .i64 c7, .int .u64 c8, .int .i64 c9, .int .i64 c10, .int .i64 c11, .int .i64 c12]] w fun e w' => e = .returned (.agg #[.int .u64 1, .int .u64 (IntKind.u64.wrap c1), .int .u64 (IntKind.u64.wrap (wrap64 (c2 - c1))), .int .u64 (1), .int .u64 0, .int .u64 0]) ∧ Below w.heap.size w w' := by
  have B1 : Hid (∀ W : World, Calls Try.prog 39 #[.bool true, .int .u64 1] W fun e w' => e = .returned (.int .u64 1) ∧ w' = W) := fun W => bit_any true 1 W
  have B2 : Hid (∀ W : World, Calls Try.prog 39 #[.bool false, .int .u64 2] W fun e w' => e = .returned (.int .u64 0) ∧ w' = W) := fun W => bit_any false 2 W
  have ZR : ∀ n : Nat, Hid (Blk (((w.alloc (.cells #[.int .i64 1, .int .i64 c1, .int .i64 c2, .bool true, .bool c4, .bool false, .int .u64 c6, .int .i64 c7, .int .u64 c8, .int .i64 c9, .int .i64 c10, .int .i64 c11, .int .i64 c12] 30)).alloc (.cells #[.int .u64 0, .int .u64 0, .int .u64 0, .int .u64 0, .int .u64 0, .int .u64 0] 24)).drewN n) (w.heap.size + 1) [.int .u64 0, .int .u64 0, .int .u64 0, .int .u64 0, .int .u64 0, .int .u64 0] 24) := fun n => by
    have := Blk.made (w.alloc (.cells #[.int .i64 1, .int .i64 c1, .int .i64 c2, .bool true, .bool c4, .bool false, .int .u64 c6, .int .i64 c7, .int .u64 c8, .int .i64 c9, .int .i64 c10, .int .i64 c11, .int .i64 c12] 30)) [.int .u64 0, .int .u64 0, .int .u64 0, .int .u64 0, .int .u64 0, .int .u64 0] 24
    rw [World.size_alloc] at this; exact this
  have BR : ∀ n : Nat, Hid (Below w.heap.size w (World.setCells (((w.alloc (.cells #[.int .i64 1, .int .i64 c1, .int .i64 c2, .bool true, .bool c4, .bool false, .int .u64 c6, .int .i64 c7, .int .u64 c8, .int .i64 c9, .int .i64 c10, .int .i64 c11, .int .i64 c12] 30)).alloc (.cells #[.int .u64 0, .int .u64 0, .int .u64 0, .int .u64 0, .int .u64 0, .int .u64 0] 24)).drewN n) (w.heap.size + 1) 0 [.int .u64 1, .int .u64 (IntKind.u64.wrap c1), .int .u64 (IntKind.u64.wrap (wrap64 (c2 - c1))), .int .u64 (1), .int .u64 0, .int .u64 0])) := fun n => below_scs (below_drewN0 (Go.Joins.below_alloc2 _ _ _)) (by omega) _ _
  go_enter Try.func26, Try.ntmps26
  go_wp2_with fail
  go_quiet (fail)
  go_wp2_with fail
  go_quiet (fail)
  go_wp2_with fail
  go_region_with (first | (refine (B1.out _).mono ?_; rintro e u ⟨rfl, hu⟩; subst hu) | (refine (B2.out _).mono ?_; rintro e u ⟨rfl, hu⟩; subst hu))
  all_goals (go_wp2_with fail)
  all_goals (exact spell_end w _ _ _ _ _ _ _ _ (ZR _).out (BR _).out rfl)
set_option maxHeartbeats 4000000 in
theorem spell1ft (c1 c2 c6 c7 c8 c9 c10 c11 c12 : Int) (c4 : Bool)  (w : World) : Calls Try.prog 26 #[.agg #[.int .i64 1, .int .i64 c1, .int .i64 c2, .bool false, .bool c4, .bool true, .int .u64 c6, .int .i64 c7, .int .u64 c8, .int .i64 c9, .int .i64 c10, .int .i64 c11, .int .i64 c12]] w fun e w' => e = .returned (.agg #[.int .u64 1, .int .u64 (IntKind.u64.wrap c1), .int .u64 (IntKind.u64.wrap (wrap64 (c2 - c1))), .int .u64 (2), .int .u64 0, .int .u64 0]) ∧ Below w.heap.size w w' := by
  have B1 : Hid (∀ W : World, Calls Try.prog 39 #[.bool false, .int .u64 1] W fun e w' => e = .returned (.int .u64 0) ∧ w' = W) := fun W => bit_any false 1 W
  have B2 : Hid (∀ W : World, Calls Try.prog 39 #[.bool true, .int .u64 2] W fun e w' => e = .returned (.int .u64 2) ∧ w' = W) := fun W => bit_any true 2 W
  have ZR : ∀ n : Nat, Hid (Blk (((w.alloc (.cells #[.int .i64 1, .int .i64 c1, .int .i64 c2, .bool false, .bool c4, .bool true, .int .u64 c6, .int .i64 c7, .int .u64 c8, .int .i64 c9, .int .i64 c10, .int .i64 c11, .int .i64 c12] 30)).alloc (.cells #[.int .u64 0, .int .u64 0, .int .u64 0, .int .u64 0, .int .u64 0, .int .u64 0] 24)).drewN n) (w.heap.size + 1) [.int .u64 0, .int .u64 0, .int .u64 0, .int .u64 0, .int .u64 0, .int .u64 0] 24) := fun n => by
    have := Blk.made (w.alloc (.cells #[.int .i64 1, .int .i64 c1, .int .i64 c2, .bool false, .bool c4, .bool true, .int .u64 c6, .int .i64 c7, .int .u64 c8, .int .i64 c9, .int .i64 c10, .int .i64 c11, .int .i64 c12] 30)) [.int .u64 0, .int .u64 0, .int .u64 0, .int .u64 0, .int .u64 0, .int .u64 0] 24
    rw [World.size_alloc] at this; exact this
  have BR : ∀ n : Nat, Hid (Below w.heap.size w (World.setCells (((w.alloc (.cells #[.int .i64 1, .int .i64 c1, .int .i64 c2, .bool false, .bool c4, .bool true, .int .u64 c6, .int .i64 c7, .int .u64 c8, .int .i64 c9, .int .i64 c10, .int .i64 c11, .int .i64 c12] 30)).alloc (.cells #[.int .u64 0, .int .u64 0, .int .u64 0, .int .u64 0, .int .u64 0, .int .u64 0] 24)).drewN n) (w.heap.size + 1) 0 [.int .u64 1, .int .u64 (IntKind.u64.wrap c1), .int .u64 (IntKind.u64.wrap (wrap64 (c2 - c1))), .int .u64 (2), .int .u64 0, .int .u64 0])) := fun n => below_scs (below_drewN0 (Go.Joins.below_alloc2 _ _ _)) (by omega) _ _
  go_enter Try.func26, Try.ntmps26
  go_wp2_with fail
  go_quiet (fail)
  go_wp2_with fail
  go_quiet (fail)
  go_wp2_with fail
  go_region_with (first | (refine (B1.out _).mono ?_; rintro e u ⟨rfl, hu⟩; subst hu) | (refine (B2.out _).mono ?_; rintro e u ⟨rfl, hu⟩; subst hu))
  all_goals (go_wp2_with fail)
  all_goals (exact spell_end w _ _ _ _ _ _ _ _ (ZR _).out (BR _).out rfl)
set_option maxHeartbeats 4000000 in
theorem spell1ff (c1 c2 c6 c7 c8 c9 c10 c11 c12 : Int) (c4 : Bool)  (w : World) : Calls Try.prog 26 #[.agg #[.int .i64 1, .int .i64 c1, .int .i64 c2, .bool false, .bool c4, .bool false, .int .u64 c6, .int .i64 c7, .int .u64 c8, .int .i64 c9, .int .i64 c10, .int .i64 c11, .int .i64 c12]] w fun e w' => e = .returned (.agg #[.int .u64 1, .int .u64 (IntKind.u64.wrap c1), .int .u64 (IntKind.u64.wrap (wrap64 (c2 - c1))), .int .u64 (0), .int .u64 0, .int .u64 0]) ∧ Below w.heap.size w w' := by
  have B1 : Hid (∀ W : World, Calls Try.prog 39 #[.bool false, .int .u64 1] W fun e w' => e = .returned (.int .u64 0) ∧ w' = W) := fun W => bit_any false 1 W
  have B2 : Hid (∀ W : World, Calls Try.prog 39 #[.bool false, .int .u64 2] W fun e w' => e = .returned (.int .u64 0) ∧ w' = W) := fun W => bit_any false 2 W
  have ZR : ∀ n : Nat, Hid (Blk (((w.alloc (.cells #[.int .i64 1, .int .i64 c1, .int .i64 c2, .bool false, .bool c4, .bool false, .int .u64 c6, .int .i64 c7, .int .u64 c8, .int .i64 c9, .int .i64 c10, .int .i64 c11, .int .i64 c12] 30)).alloc (.cells #[.int .u64 0, .int .u64 0, .int .u64 0, .int .u64 0, .int .u64 0, .int .u64 0] 24)).drewN n) (w.heap.size + 1) [.int .u64 0, .int .u64 0, .int .u64 0, .int .u64 0, .int .u64 0, .int .u64 0] 24) := fun n => by
    have := Blk.made (w.alloc (.cells #[.int .i64 1, .int .i64 c1, .int .i64 c2, .bool false, .bool c4, .bool false, .int .u64 c6, .int .i64 c7, .int .u64 c8, .int .i64 c9, .int .i64 c10, .int .i64 c11, .int .i64 c12] 30)) [.int .u64 0, .int .u64 0, .int .u64 0, .int .u64 0, .int .u64 0, .int .u64 0] 24
    rw [World.size_alloc] at this; exact this
  have BR : ∀ n : Nat, Hid (Below w.heap.size w (World.setCells (((w.alloc (.cells #[.int .i64 1, .int .i64 c1, .int .i64 c2, .bool false, .bool c4, .bool false, .int .u64 c6, .int .i64 c7, .int .u64 c8, .int .i64 c9, .int .i64 c10, .int .i64 c11, .int .i64 c12] 30)).alloc (.cells #[.int .u64 0, .int .u64 0, .int .u64 0, .int .u64 0, .int .u64 0, .int .u64 0] 24)).drewN n) (w.heap.size + 1) 0 [.int .u64 1, .int .u64 (IntKind.u64.wrap c1), .int .u64 (IntKind.u64.wrap (wrap64 (c2 - c1))), .int .u64 (0), .int .u64 0, .int .u64 0])) := fun n => below_scs (below_drewN0 (Go.Joins.below_alloc2 _ _ _)) (by omega) _ _
  go_enter Try.func26, Try.ntmps26
  go_wp2_with fail
  go_quiet (fail)
  go_wp2_with fail
  go_quiet (fail)
  go_wp2_with fail
  go_region_with (first | (refine (B1.out _).mono ?_; rintro e u ⟨rfl, hu⟩; subst hu) | (refine (B2.out _).mono ?_; rintro e u ⟨rfl, hu⟩; subst hu))
  all_goals (go_wp2_with fail)
  all_goals (exact spell_end w _ _ _ _ _ _ _ _ (ZR _).out (BR _).out rfl)
set_option maxHeartbeats 4000000 in
theorem spell3tt (c1 c2 c6 c7 c8 c9 c10 c11 c12 : Int) (c4 : Bool)  (w : World) : Calls Try.prog 26 #[.agg #[.int .i64 3, .int .i64 c1, .int .i64 c2, .bool true, .bool c4, .bool true, .int .u64 c6, .int .i64 c7, .int .u64 c8, .int .i64 c9, .int .i64 c10, .int .i64 c11, .int .i64 c12]] w fun e w' => e = .returned (.agg #[.int .u64 3, .int .u64 (IntKind.u64.wrap c1), .int .u64 (IntKind.u64.wrap (wrap64 (c2 - c1))), .int .u64 (3), .int .u64 0, .int .u64 0]) ∧ Below w.heap.size w w' := by
  have B1 : Hid (∀ W : World, Calls Try.prog 39 #[.bool true, .int .u64 1] W fun e w' => e = .returned (.int .u64 1) ∧ w' = W) := fun W => bit_any true 1 W
  have B2 : Hid (∀ W : World, Calls Try.prog 39 #[.bool true, .int .u64 2] W fun e w' => e = .returned (.int .u64 2) ∧ w' = W) := fun W => bit_any true 2 W
  have ZR : ∀ n : Nat, Hid (Blk (((w.alloc (.cells #[.int .i64 3, .int .i64 c1, .int .i64 c2, .bool true, .bool c4, .bool true, .int .u64 c6, .int .i64 c7, .int .u64 c8, .int .i64 c9, .int .i64 c10, .int .i64 c11, .int .i64 c12] 30)).alloc (.cells #[.int .u64 0, .int .u64 0, .int .u64 0, .int .u64 0, .int .u64 0, .int .u64 0] 24)).drewN n) (w.heap.size + 1) [.int .u64 0, .int .u64 0, .int .u64 0, .int .u64 0, .int .u64 0, .int .u64 0] 24) := fun n => by
    have := Blk.made (w.alloc (.cells #[.int .i64 3, .int .i64 c1, .int .i64 c2, .bool true, .bool c4, .bool true, .int .u64 c6, .int .i64 c7, .int .u64 c8, .int .i64 c9, .int .i64 c10, .int .i64 c11, .int .i64 c12] 30)) [.int .u64 0, .int .u64 0, .int .u64 0, .int .u64 0, .int .u64 0, .int .u64 0] 24
    rw [World.size_alloc] at this; exact this
  have BR : ∀ n : Nat, Hid (Below w.heap.size w (World.setCells (((w.alloc (.cells #[.int .i64 3, .int .i64 c1, .int .i64 c2, .bool true, .bool c4, .bool true, .int .u64 c6, .int .i64 c7, .int .u64 c8, .int .i64 c9, .int .i64 c10, .int .i64 c11, .int .i64 c12] 30)).alloc (.cells #[.int .u64 0, .int .u64 0, .int .u64 0, .int .u64 0, .int .u64 0, .int .u64 0] 24)).drewN n) (w.heap.size + 1) 0 [.int .u64 3, .int .u64 (IntKind.u64.wrap c1), .int .u64 (IntKind.u64.wrap (wrap64 (c2 - c1))), .int .u64 (3), .int .u64 0, .int .u64 0])) := fun n => below_scs (below_drewN0 (Go.Joins.below_alloc2 _ _ _)) (by omega) _ _
  go_enter Try.func26, Try.ntmps26
  go_wp2_with fail
  go_quiet (fail)
  go_wp2_with fail
  go_quiet (fail)
  go_wp2_with fail
  go_region_with (first | (refine (B1.out _).mono ?_; rintro e u ⟨rfl, hu⟩; subst hu) | (refine (B2.out _).mono ?_; rintro e u ⟨rfl, hu⟩; subst hu))
  all_goals (go_wp2_with fail)
  all_goals (exact spell_end w _ _ _ _ _ _ _ _ (ZR _).out (BR _).out rfl)
set_option maxHeartbeats 4000000 in
theorem spell3tf (c1 c2 c6 c7 c8 c9 c10 c11 c12 : Int) (c4 : Bool)  (w : World) : Calls Try.prog 26 #[.agg #[.int .i64 3, .int .i64 c1, .int .i64 c2, .bool true, .bool c4, .bool false, .int .u64 c6, .int .i64 c7, .int .u64 c8, .int .i64 c9, .int .i64 c10, .int .i64 c11, .int .i64 c12]] w fun e w' => e = .returned (.agg #[.int .u64 3, .int .u64 (IntKind.u64.wrap c1), .int .u64 (IntKind.u64.wrap (wrap64 (c2 - c1))), .int .u64 (1), .int .u64 0, .int .u64 0]) ∧ Below w.heap.size w w' := by
  have B1 : Hid (∀ W : World, Calls Try.prog 39 #[.bool true, .int .u64 1] W fun e w' => e = .returned (.int .u64 1) ∧ w' = W) := fun W => bit_any true 1 W
  have B2 : Hid (∀ W : World, Calls Try.prog 39 #[.bool false, .int .u64 2] W fun e w' => e = .returned (.int .u64 0) ∧ w' = W) := fun W => bit_any false 2 W
  have ZR : ∀ n : Nat, Hid (Blk (((w.alloc (.cells #[.int .i64 3, .int .i64 c1, .int .i64 c2, .bool true, .bool c4, .bool false, .int .u64 c6, .int .i64 c7, .int .u64 c8, .int .i64 c9, .int .i64 c10, .int .i64 c11, .int .i64 c12] 30)).alloc (.cells #[.int .u64 0, .int .u64 0, .int .u64 0, .int .u64 0, .int .u64 0, .int .u64 0] 24)).drewN n) (w.heap.size + 1) [.int .u64 0, .int .u64 0, .int .u64 0, .int .u64 0, .int .u64 0, .int .u64 0] 24) := fun n => by
    have := Blk.made (w.alloc (.cells #[.int .i64 3, .int .i64 c1, .int .i64 c2, .bool true, .bool c4, .bool false, .int .u64 c6, .int .i64 c7, .int .u64 c8, .int .i64 c9, .int .i64 c10, .int .i64 c11, .int .i64 c12] 30)) [.int .u64 0, .int .u64 0, .int .u64 0, .int .u64 0, .int .u64 0, .int .u64 0] 24
    rw [World.size_alloc] at this; exact this
  have BR : ∀ n : Nat, Hid (Below w.heap.size w (World.setCells (((w.alloc (.cells #[.int .i64 3, .int .i64 c1, .int .i64 c2, .bool true, .bool c4, .bool false, .int .u64 c6, .int .i64 c7, .int .u64 c8, .int .i64 c9, .int .i64 c10, .int .i64 c11, .int .i64 c12] 30)).alloc (.cells #[.int .u64 0, .int .u64 0, .int .u64 0, .int .u64 0, .int .u64 0, .int .u64 0] 24)).drewN n) (w.heap.size + 1) 0 [.int .u64 3, .int .u64 (IntKind.u64.wrap c1), .int .u64 (IntKind.u64.wrap (wrap64 (c2 - c1))), .int .u64 (1), .int .u64 0, .int .u64 0])) := fun n => below_scs (below_drewN0 (Go.Joins.below_alloc2 _ _ _)) (by omega) _ _
  go_enter Try.func26, Try.ntmps26
  go_wp2_with fail
  go_quiet (fail)
  go_wp2_with fail
  go_quiet (fail)
  go_wp2_with fail
  go_region_with (first | (refine (B1.out _).mono ?_; rintro e u ⟨rfl, hu⟩; subst hu) | (refine (B2.out _).mono ?_; rintro e u ⟨rfl, hu⟩; subst hu))
  all_goals (go_wp2_with fail)
  all_goals (exact spell_end w _ _ _ _ _ _ _ _ (ZR _).out (BR _).out rfl)
set_option maxHeartbeats 4000000 in
theorem spell3ft (c1 c2 c6 c7 c8 c9 c10 c11 c12 : Int) (c4 : Bool)  (w : World) : Calls Try.prog 26 #[.agg #[.int .i64 3, .int .i64 c1, .int .i64 c2, .bool false, .bool c4, .bool true, .int .u64 c6, .int .i64 c7, .int .u64 c8, .int .i64 c9, .int .i64 c10, .int .i64 c11, .int .i64 c12]] w fun e w' => e = .returned (.agg #[.int .u64 3, .int .u64 (IntKind.u64.wrap c1), .int .u64 (IntKind.u64.wrap (wrap64 (c2 - c1))), .int .u64 (2), .int .u64 0, .int .u64 0]) ∧ Below w.heap.size w w' := by
  have B1 : Hid (∀ W : World, Calls Try.prog 39 #[.bool false, .int .u64 1] W fun e w' => e = .returned (.int .u64 0) ∧ w' = W) := fun W => bit_any false 1 W
  have B2 : Hid (∀ W : World, Calls Try.prog 39 #[.bool true, .int .u64 2] W fun e w' => e = .returned (.int .u64 2) ∧ w' = W) := fun W => bit_any true 2 W
  have ZR : ∀ n : Nat, Hid (Blk (((w.alloc (.cells #[.int .i64 3, .int .i64 c1, .int .i64 c2, .bool false, .bool c4, .bool true, .int .u64 c6, .int .i64 c7, .int .u64 c8, .int .i64 c9, .int .i64 c10, .int .i64 c11, .int .i64 c12] 30)).alloc (.cells #[.int .u64 0, .int .u64 0, .int .u64 0, .int .u64 0, .int .u64 0, .int .u64 0] 24)).drewN n) (w.heap.size + 1) [.int .u64 0, .int .u64 0, .int .u64 0, .int .u64 0, .int .u64 0, .int .u64 0] 24) := fun n => by
    have := Blk.made (w.alloc (.cells #[.int .i64 3, .int .i64 c1, .int .i64 c2, .bool false, .bool c4, .bool true, .int .u64 c6, .int .i64 c7, .int .u64 c8, .int .i64 c9, .int .i64 c10, .int .i64 c11, .int .i64 c12] 30)) [.int .u64 0, .int .u64 0, .int .u64 0, .int .u64 0, .int .u64 0, .int .u64 0] 24
    rw [World.size_alloc] at this; exact this
  have BR : ∀ n : Nat, Hid (Below w.heap.size w (World.setCells (((w.alloc (.cells #[.int .i64 3, .int .i64 c1, .int .i64 c2, .bool false, .bool c4, .bool true, .int .u64 c6, .int .i64 c7, .int .u64 c8, .int .i64 c9, .int .i64 c10, .int .i64 c11, .int .i64 c12] 30)).alloc (.cells #[.int .u64 0, .int .u64 0, .int .u64 0, .int .u64 0, .int .u64 0, .int .u64 0] 24)).drewN n) (w.heap.size + 1) 0 [.int .u64 3, .int .u64 (IntKind.u64.wrap c1), .int .u64 (IntKind.u64.wrap (wrap64 (c2 - c1))), .int .u64 (2), .int .u64 0, .int .u64 0])) := fun n => below_scs (below_drewN0 (Go.Joins.below_alloc2 _ _ _)) (by omega) _ _
  go_enter Try.func26, Try.ntmps26
  go_wp2_with fail
  go_quiet (fail)
  go_wp2_with fail
  go_quiet (fail)
  go_wp2_with fail
  go_region_with (first | (refine (B1.out _).mono ?_; rintro e u ⟨rfl, hu⟩; subst hu) | (refine (B2.out _).mono ?_; rintro e u ⟨rfl, hu⟩; subst hu))
  all_goals (go_wp2_with fail)
  all_goals (exact spell_end w _ _ _ _ _ _ _ _ (ZR _).out (BR _).out rfl)
set_option maxHeartbeats 4000000 in
theorem spell3ff (c1 c2 c6 c7 c8 c9 c10 c11 c12 : Int) (c4 : Bool)  (w : World) : Calls Try.prog 26 #[.agg #[.int .i64 3, .int .i64 c1, .int .i64 c2, .bool false, .bool c4, .bool false, .int .u64 c6, .int .i64 c7, .int .u64 c8, .int .i64 c9, .int .i64 c10, .int .i64 c11, .int .i64 c12]] w fun e w' => e = .returned (.agg #[.int .u64 3, .int .u64 (IntKind.u64.wrap c1), .int .u64 (IntKind.u64.wrap (wrap64 (c2 - c1))), .int .u64 (0), .int .u64 0, .int .u64 0]) ∧ Below w.heap.size w w' := by
  have B1 : Hid (∀ W : World, Calls Try.prog 39 #[.bool false, .int .u64 1] W fun e w' => e = .returned (.int .u64 0) ∧ w' = W) := fun W => bit_any false 1 W
  have B2 : Hid (∀ W : World, Calls Try.prog 39 #[.bool false, .int .u64 2] W fun e w' => e = .returned (.int .u64 0) ∧ w' = W) := fun W => bit_any false 2 W
  have ZR : ∀ n : Nat, Hid (Blk (((w.alloc (.cells #[.int .i64 3, .int .i64 c1, .int .i64 c2, .bool false, .bool c4, .bool false, .int .u64 c6, .int .i64 c7, .int .u64 c8, .int .i64 c9, .int .i64 c10, .int .i64 c11, .int .i64 c12] 30)).alloc (.cells #[.int .u64 0, .int .u64 0, .int .u64 0, .int .u64 0, .int .u64 0, .int .u64 0] 24)).drewN n) (w.heap.size + 1) [.int .u64 0, .int .u64 0, .int .u64 0, .int .u64 0, .int .u64 0, .int .u64 0] 24) := fun n => by
    have := Blk.made (w.alloc (.cells #[.int .i64 3, .int .i64 c1, .int .i64 c2, .bool false, .bool c4, .bool false, .int .u64 c6, .int .i64 c7, .int .u64 c8, .int .i64 c9, .int .i64 c10, .int .i64 c11, .int .i64 c12] 30)) [.int .u64 0, .int .u64 0, .int .u64 0, .int .u64 0, .int .u64 0, .int .u64 0] 24
    rw [World.size_alloc] at this; exact this
  have BR : ∀ n : Nat, Hid (Below w.heap.size w (World.setCells (((w.alloc (.cells #[.int .i64 3, .int .i64 c1, .int .i64 c2, .bool false, .bool c4, .bool false, .int .u64 c6, .int .i64 c7, .int .u64 c8, .int .i64 c9, .int .i64 c10, .int .i64 c11, .int .i64 c12] 30)).alloc (.cells #[.int .u64 0, .int .u64 0, .int .u64 0, .int .u64 0, .int .u64 0, .int .u64 0] 24)).drewN n) (w.heap.size + 1) 0 [.int .u64 3, .int .u64 (IntKind.u64.wrap c1), .int .u64 (IntKind.u64.wrap (wrap64 (c2 - c1))), .int .u64 (0), .int .u64 0, .int .u64 0])) := fun n => below_scs (below_drewN0 (Go.Joins.below_alloc2 _ _ _)) (by omega) _ _
  go_enter Try.func26, Try.ntmps26
  go_wp2_with fail
  go_quiet (fail)
  go_wp2_with fail
  go_quiet (fail)
  go_wp2_with fail
  go_region_with (first | (refine (B1.out _).mono ?_; rintro e u ⟨rfl, hu⟩; subst hu) | (refine (B2.out _).mono ?_; rintro e u ⟨rfl, hu⟩; subst hu))
  all_goals (go_wp2_with fail)
  all_goals (exact spell_end w _ _ _ _ _ _ _ _ (ZR _).out (BR _).out rfl)
set_option maxHeartbeats 4000000 in
theorem spell6t (c1 c2 c6 c7 c8 c9 c10 c11 c12 : Int) (c4 c5 : Bool)  (w : World) : Calls Try.prog 26 #[.agg #[.int .i64 6, .int .i64 c1, .int .i64 c2, .bool true, .bool c4, .bool c5, .int .u64 c6, .int .i64 c7, .int .u64 c8, .int .i64 c9, .int .i64 c10, .int .i64 c11, .int .i64 c12]] w fun e w' => e = .returned (.agg #[.int .u64 6, .int .u64 (IntKind.u64.wrap c1), .int .u64 (IntKind.u64.wrap c9), .int .u64 (1), .int .u64 0, .int .u64 0]) ∧ Below w.heap.size w w' := by
  have B1 : Hid (∀ W : World, Calls Try.prog 39 #[.bool true, .int .u64 1] W fun e w' => e = .returned (.int .u64 1) ∧ w' = W) := fun W => bit_any true 1 W
  have ZR : ∀ n : Nat, Hid (Blk (((w.alloc (.cells #[.int .i64 6, .int .i64 c1, .int .i64 c2, .bool true, .bool c4, .bool c5, .int .u64 c6, .int .i64 c7, .int .u64 c8, .int .i64 c9, .int .i64 c10, .int .i64 c11, .int .i64 c12] 30)).alloc (.cells #[.int .u64 0, .int .u64 0, .int .u64 0, .int .u64 0, .int .u64 0, .int .u64 0] 24)).drewN n) (w.heap.size + 1) [.int .u64 0, .int .u64 0, .int .u64 0, .int .u64 0, .int .u64 0, .int .u64 0] 24) := fun n => by
    have := Blk.made (w.alloc (.cells #[.int .i64 6, .int .i64 c1, .int .i64 c2, .bool true, .bool c4, .bool c5, .int .u64 c6, .int .i64 c7, .int .u64 c8, .int .i64 c9, .int .i64 c10, .int .i64 c11, .int .i64 c12] 30)) [.int .u64 0, .int .u64 0, .int .u64 0, .int .u64 0, .int .u64 0, .int .u64 0] 24
    rw [World.size_alloc] at this; exact this
  have BR : ∀ n : Nat, Hid (Below w.heap.size w (World.setCells (((w.alloc (.cells #[.int .i64 6, .int .i64 c1, .int .i64 c2, .bool true, .bool c4, .bool c5, .int .u64 c6, .int .i64 c7, .int .u64 c8, .int .i64 c9, .int .i64 c10, .int .i64 c11, .int .i64 c12] 30)).alloc (.cells #[.int .u64 0, .int .u64 0, .int .u64 0, .int .u64 0, .int .u64 0, .int .u64 0] 24)).drewN n) (w.heap.size + 1) 0 [.int .u64 6, .int .u64 (IntKind.u64.wrap c1), .int .u64 (IntKind.u64.wrap c9), .int .u64 (1), .int .u64 0, .int .u64 0])) := fun n => below_scs (below_drewN0 (Go.Joins.below_alloc2 _ _ _)) (by omega) _ _
  go_enter Try.func26, Try.ntmps26
  go_wp2_with fail
  go_quiet (fail)
  go_wp2_with fail
  go_quiet (fail)
  go_wp2_with fail
  refine (B1.out _).mono ?_
  rintro e u ⟨rfl, hu⟩
  subst hu
  go_wp2_with fail
  exact spell_end w _ _ _ _ _ _ _ _ (ZR _).out (BR _).out rfl
set_option maxHeartbeats 4000000 in
theorem spell6f (c1 c2 c6 c7 c8 c9 c10 c11 c12 : Int) (c4 c5 : Bool)  (w : World) : Calls Try.prog 26 #[.agg #[.int .i64 6, .int .i64 c1, .int .i64 c2, .bool false, .bool c4, .bool c5, .int .u64 c6, .int .i64 c7, .int .u64 c8, .int .i64 c9, .int .i64 c10, .int .i64 c11, .int .i64 c12]] w fun e w' => e = .returned (.agg #[.int .u64 6, .int .u64 (IntKind.u64.wrap c1), .int .u64 (IntKind.u64.wrap c9), .int .u64 (0), .int .u64 0, .int .u64 0]) ∧ Below w.heap.size w w' := by
  have B1 : Hid (∀ W : World, Calls Try.prog 39 #[.bool false, .int .u64 1] W fun e w' => e = .returned (.int .u64 0) ∧ w' = W) := fun W => bit_any false 1 W
  have ZR : ∀ n : Nat, Hid (Blk (((w.alloc (.cells #[.int .i64 6, .int .i64 c1, .int .i64 c2, .bool false, .bool c4, .bool c5, .int .u64 c6, .int .i64 c7, .int .u64 c8, .int .i64 c9, .int .i64 c10, .int .i64 c11, .int .i64 c12] 30)).alloc (.cells #[.int .u64 0, .int .u64 0, .int .u64 0, .int .u64 0, .int .u64 0, .int .u64 0] 24)).drewN n) (w.heap.size + 1) [.int .u64 0, .int .u64 0, .int .u64 0, .int .u64 0, .int .u64 0, .int .u64 0] 24) := fun n => by
    have := Blk.made (w.alloc (.cells #[.int .i64 6, .int .i64 c1, .int .i64 c2, .bool false, .bool c4, .bool c5, .int .u64 c6, .int .i64 c7, .int .u64 c8, .int .i64 c9, .int .i64 c10, .int .i64 c11, .int .i64 c12] 30)) [.int .u64 0, .int .u64 0, .int .u64 0, .int .u64 0, .int .u64 0, .int .u64 0] 24
    rw [World.size_alloc] at this; exact this
  have BR : ∀ n : Nat, Hid (Below w.heap.size w (World.setCells (((w.alloc (.cells #[.int .i64 6, .int .i64 c1, .int .i64 c2, .bool false, .bool c4, .bool c5, .int .u64 c6, .int .i64 c7, .int .u64 c8, .int .i64 c9, .int .i64 c10, .int .i64 c11, .int .i64 c12] 30)).alloc (.cells #[.int .u64 0, .int .u64 0, .int .u64 0, .int .u64 0, .int .u64 0, .int .u64 0] 24)).drewN n) (w.heap.size + 1) 0 [.int .u64 6, .int .u64 (IntKind.u64.wrap c1), .int .u64 (IntKind.u64.wrap c9), .int .u64 (0), .int .u64 0, .int .u64 0])) := fun n => below_scs (below_drewN0 (Go.Joins.below_alloc2 _ _ _)) (by omega) _ _
  go_enter Try.func26, Try.ntmps26
  go_wp2_with fail
  go_quiet (fail)
  go_wp2_with fail
  go_quiet (fail)
  go_wp2_with fail
  refine (B1.out _).mono ?_
  rintro e u ⟨rfl, hu⟩
  subst hu
  go_wp2_with fail
  exact spell_end w _ _ _ _ _ _ _ _ (ZR _).out (BR _).out rfl
end Go.Proofs.Ytccbacjiiffheaa
