/- The document's Read, op by op. -/
import Derived.Test.YtccbacjiiffheaaCS
namespace Go.Proofs.Ytccbacjiiffheaa
open Go.ChangeShapes Go.WideShapes Go.ChangeAt Go.RowKit Go.Maps
set_option linter.unusedSimpArgs false
set_option linter.unusedVariables false

set_option maxRecDepth 8000 in
set_option maxHeartbeats 8000000 in
theorem ref12 (x1 : Int) (b1 : 0 ≤ x1 ∧ x1 < 18446744073709551616) (l1 : x1 < 1048577) (w : World) : Calls Try.prog 10 #[.agg #[.int .u64 12, .int .u64 x1, .int .u64 0, .int .u64 0, .int .u64 0, .int .u64 0]] w fun e w' => e = .returned (.tuple #[.agg #[.int .i64 12, .int .i64 0, .int .i64 0, .bool false, .bool false, .bool false, .int .u64 0, .int .i64 0, .int .u64 0, .int .i64 x1, .int .i64 0, .int .i64 0, .int .i64 0], .bool true]) ∧ Below w.heap.size w w' := by
  have US2 : Hid (∀ W : World, Calls Try.prog 14 #[.int .u64 12] W fun e w' => e = .returned (.int .i64 1) ∧ w' = W) := fun W => used_any 12 W
  have d1 : decide (x1 ≤ 1048576) = true := by simp; omega
  go_enter Try.func10, Try.ntmps10
  go_wp2_with fail
  refine (US2.out _).mono ?_
  rintro e u2 ⟨rfl, hu⟩
  subst hu
  go_wp2_with fail
  refine wp_loop_rounds 9 ?_
  rw [rounds_succ]
  go_wp2_with fail
  rw [rounds_succ]
  go_wp2_with fail
  rw [rounds_succ]
  go_wp2_with fail
  rw [rounds_succ]
  go_wp2_with fail
  rw [rounds_succ]
  go_wp2_with fail
  go_returns
  exact ⟨rfl, Go.Joins.below_alloc3 _ _ _ _⟩
set_option maxRecDepth 8000 in
set_option maxHeartbeats 8000000 in
theorem ref12n1 (x1 : Int) (b1 : 0 ≤ x1 ∧ x1 < 18446744073709551616) (l1 : ¬ x1 < 1048577) (w : World) : Calls Try.prog 10 #[.agg #[.int .u64 12, .int .u64 x1, .int .u64 0, .int .u64 0, .int .u64 0, .int .u64 0]] w fun e w' => e = .returned (.tuple #[.agg #[.int .i64 0, .int .i64 0, .int .i64 0, .bool false, .bool false, .bool false, .int .u64 0, .int .i64 0, .int .u64 0, .int .i64 0, .int .i64 0, .int .i64 0, .int .i64 0], .bool false]) ∧ Below w.heap.size w w' := by
  have US2 : Hid (∀ W : World, Calls Try.prog 14 #[.int .u64 12] W fun e w' => e = .returned (.int .i64 1) ∧ w' = W) := fun W => used_any 12 W
  have d1 : decide (x1 ≤ 1048576) = false := by simp; omega
  go_enter Try.func10, Try.ntmps10
  go_wp2_with fail
  refine (US2.out _).mono ?_
  rintro e u2 ⟨rfl, hu⟩
  subst hu
  go_wp2_with fail
  refine wp_loop_rounds 9 ?_
  rw [rounds_succ]
  go_wp2_with fail
  rw [rounds_succ]
  go_wp2_with fail
  rw [rounds_succ]
  go_wp2_with fail
  rw [rounds_succ]
  go_wp2_with fail
  rw [rounds_succ]
  go_wp2_with fail
  go_returns
  exact ⟨rfl, Go.Joins.below_alloc3 _ _ _ _⟩
set_option maxRecDepth 8000 in
set_option maxHeartbeats 8000000 in
theorem ref15 (x1 x2 x3 x4 : Int) (b1 : 0 ≤ x1 ∧ x1 < 18446744073709551616) (b2 : 0 ≤ x2 ∧ x2 < 18446744073709551616) (b3 : 0 ≤ x3 ∧ x3 < 18446744073709551616) (b4 : 0 ≤ x4 ∧ x4 < 18446744073709551616) (l1 : x1 < 8) (l2 : x2 < 4) (l3 : x3 < 4) (l4 : x4 < 4) (w : World) : Calls Try.prog 10 #[.agg #[.int .u64 15, .int .u64 x1, .int .u64 x2, .int .u64 x3, .int .u64 x4, .int .u64 0]] w fun e w' => e = .returned (.tuple #[.agg #[.int .i64 15, .int .i64 0, .int .i64 0, .bool false, .bool false, .bool false, .int .u64 0, .int .i64 0, .int .u64 0, .int .i64 (x1 + 1), .int .i64 x2, .int .i64 x3, .int .i64 x4], .bool true]) ∧ Below w.heap.size w w' := by
  have US2 : Hid (∀ W : World, Calls Try.prog 14 #[.int .u64 15] W fun e w' => e = .returned (.int .i64 4) ∧ w' = W) := fun W => used_any 15 W
  have d1 : decide (x1 < 8) = true := by simp; omega
  have d2 : decide (x2 < 4) = true := by simp; omega
  have d3 : decide (x3 < 4) = true := by simp; omega
  have d4 : decide (x4 < 4) = true := by simp; omega
  go_enter Try.func10, Try.ntmps10
  go_wp2_with fail
  refine (US2.out _).mono ?_
  rintro e u2 ⟨rfl, hu⟩
  subst hu
  go_wp2_with fail
  refine wp_loop_rounds 9 ?_
  rw [rounds_succ]
  go_wp2_with fail
  rw [rounds_succ]
  go_wp2_with fail
  go_returns
  exact ⟨rfl, Go.Joins.below_alloc3 _ _ _ _⟩
set_option maxRecDepth 8000 in
set_option maxHeartbeats 8000000 in
theorem ref15n1 (x1 x2 x3 x4 : Int) (b1 : 0 ≤ x1 ∧ x1 < 18446744073709551616) (b2 : 0 ≤ x2 ∧ x2 < 18446744073709551616) (b3 : 0 ≤ x3 ∧ x3 < 18446744073709551616) (b4 : 0 ≤ x4 ∧ x4 < 18446744073709551616) (l1 : ¬ x1 < 8) (w : World) : Calls Try.prog 10 #[.agg #[.int .u64 15, .int .u64 x1, .int .u64 x2, .int .u64 x3, .int .u64 x4, .int .u64 0]] w fun e w' => e = .returned (.tuple #[.agg #[.int .i64 0, .int .i64 0, .int .i64 0, .bool false, .bool false, .bool false, .int .u64 0, .int .i64 0, .int .u64 0, .int .i64 0, .int .i64 0, .int .i64 0, .int .i64 0], .bool false]) ∧ Below w.heap.size w w' := by
  have US2 : Hid (∀ W : World, Calls Try.prog 14 #[.int .u64 15] W fun e w' => e = .returned (.int .i64 4) ∧ w' = W) := fun W => used_any 15 W
  have d1 : decide (x1 < 8) = false := by simp; omega
  go_enter Try.func10, Try.ntmps10
  go_wp2_with fail
  refine (US2.out _).mono ?_
  rintro e u2 ⟨rfl, hu⟩
  subst hu
  go_wp2_with fail
  refine wp_loop_rounds 9 ?_
  rw [rounds_succ]
  go_wp2_with fail
  rw [rounds_succ]
  go_wp2_with fail
  go_returns
  exact ⟨rfl, Go.Joins.below_alloc3 _ _ _ _⟩
set_option maxRecDepth 8000 in
set_option maxHeartbeats 8000000 in
theorem ref15n2 (x1 x2 x3 x4 : Int) (b1 : 0 ≤ x1 ∧ x1 < 18446744073709551616) (b2 : 0 ≤ x2 ∧ x2 < 18446744073709551616) (b3 : 0 ≤ x3 ∧ x3 < 18446744073709551616) (b4 : 0 ≤ x4 ∧ x4 < 18446744073709551616) (l1 : x1 < 8) (l2 : ¬ x2 < 4) (w : World) : Calls Try.prog 10 #[.agg #[.int .u64 15, .int .u64 x1, .int .u64 x2, .int .u64 x3, .int .u64 x4, .int .u64 0]] w fun e w' => e = .returned (.tuple #[.agg #[.int .i64 0, .int .i64 0, .int .i64 0, .bool false, .bool false, .bool false, .int .u64 0, .int .i64 0, .int .u64 0, .int .i64 0, .int .i64 0, .int .i64 0, .int .i64 0], .bool false]) ∧ Below w.heap.size w w' := by
  have US2 : Hid (∀ W : World, Calls Try.prog 14 #[.int .u64 15] W fun e w' => e = .returned (.int .i64 4) ∧ w' = W) := fun W => used_any 15 W
  have d1 : decide (x1 < 8) = true := by simp; omega
  have d2 : decide (x2 < 4) = false := by simp; omega
  go_enter Try.func10, Try.ntmps10
  go_wp2_with fail
  refine (US2.out _).mono ?_
  rintro e u2 ⟨rfl, hu⟩
  subst hu
  go_wp2_with fail
  refine wp_loop_rounds 9 ?_
  rw [rounds_succ]
  go_wp2_with fail
  rw [rounds_succ]
  go_wp2_with fail
  go_returns
  exact ⟨rfl, Go.Joins.below_alloc3 _ _ _ _⟩
set_option maxRecDepth 8000 in
set_option maxHeartbeats 8000000 in
theorem ref15n3 (x1 x2 x3 x4 : Int) (b1 : 0 ≤ x1 ∧ x1 < 18446744073709551616) (b2 : 0 ≤ x2 ∧ x2 < 18446744073709551616) (b3 : 0 ≤ x3 ∧ x3 < 18446744073709551616) (b4 : 0 ≤ x4 ∧ x4 < 18446744073709551616) (l1 : x1 < 8) (l2 : x2 < 4) (l3 : ¬ x3 < 4) (w : World) : Calls Try.prog 10 #[.agg #[.int .u64 15, .int .u64 x1, .int .u64 x2, .int .u64 x3, .int .u64 x4, .int .u64 0]] w fun e w' => e = .returned (.tuple #[.agg #[.int .i64 0, .int .i64 0, .int .i64 0, .bool false, .bool false, .bool false, .int .u64 0, .int .i64 0, .int .u64 0, .int .i64 0, .int .i64 0, .int .i64 0, .int .i64 0], .bool false]) ∧ Below w.heap.size w w' := by
  have US2 : Hid (∀ W : World, Calls Try.prog 14 #[.int .u64 15] W fun e w' => e = .returned (.int .i64 4) ∧ w' = W) := fun W => used_any 15 W
  have d1 : decide (x1 < 8) = true := by simp; omega
  have d2 : decide (x2 < 4) = true := by simp; omega
  have d3 : decide (x3 < 4) = false := by simp; omega
  go_enter Try.func10, Try.ntmps10
  go_wp2_with fail
  refine (US2.out _).mono ?_
  rintro e u2 ⟨rfl, hu⟩
  subst hu
  go_wp2_with fail
  refine wp_loop_rounds 9 ?_
  rw [rounds_succ]
  go_wp2_with fail
  rw [rounds_succ]
  go_wp2_with fail
  go_returns
  exact ⟨rfl, Go.Joins.below_alloc3 _ _ _ _⟩
set_option maxRecDepth 8000 in
set_option maxHeartbeats 8000000 in
theorem ref15n4 (x1 x2 x3 x4 : Int) (b1 : 0 ≤ x1 ∧ x1 < 18446744073709551616) (b2 : 0 ≤ x2 ∧ x2 < 18446744073709551616) (b3 : 0 ≤ x3 ∧ x3 < 18446744073709551616) (b4 : 0 ≤ x4 ∧ x4 < 18446744073709551616) (l1 : x1 < 8) (l2 : x2 < 4) (l3 : x3 < 4) (l4 : ¬ x4 < 4) (w : World) : Calls Try.prog 10 #[.agg #[.int .u64 15, .int .u64 x1, .int .u64 x2, .int .u64 x3, .int .u64 x4, .int .u64 0]] w fun e w' => e = .returned (.tuple #[.agg #[.int .i64 0, .int .i64 0, .int .i64 0, .bool false, .bool false, .bool false, .int .u64 0, .int .i64 0, .int .u64 0, .int .i64 0, .int .i64 0, .int .i64 0, .int .i64 0], .bool false]) ∧ Below w.heap.size w w' := by
  have US2 : Hid (∀ W : World, Calls Try.prog 14 #[.int .u64 15] W fun e w' => e = .returned (.int .i64 4) ∧ w' = W) := fun W => used_any 15 W
  have d1 : decide (x1 < 8) = true := by simp; omega
  have d2 : decide (x2 < 4) = true := by simp; omega
  have d3 : decide (x3 < 4) = true := by simp; omega
  have d4 : decide (x4 < 4) = false := by simp; omega
  go_enter Try.func10, Try.ntmps10
  go_wp2_with fail
  refine (US2.out _).mono ?_
  rintro e u2 ⟨rfl, hu⟩
  subst hu
  go_wp2_with fail
  refine wp_loop_rounds 9 ?_
  rw [rounds_succ]
  go_wp2_with fail
  rw [rounds_succ]
  go_wp2_with fail
  go_returns
  exact ⟨rfl, Go.Joins.below_alloc3 _ _ _ _⟩
set_option maxRecDepth 8000 in
set_option maxHeartbeats 8000000 in
theorem ref16 (x1 x2 : Int) (b1 : 0 ≤ x1 ∧ x1 < 18446744073709551616) (b2 : 0 ≤ x2 ∧ x2 < 18446744073709551616) (l1 : x1 < 4) (w : World) : Calls Try.prog 10 #[.agg #[.int .u64 16, .int .u64 x1, .int .u64 x2, .int .u64 0, .int .u64 0, .int .u64 0]] w fun e w' => e = .returned (.tuple #[.agg #[.int .i64 16, .int .i64 0, .int .i64 0, .bool false, .bool false, .bool false, .int .u64 0, .int .i64 0, .int .u64 x2, .int .i64 x1, .int .i64 0, .int .i64 0, .int .i64 0], .bool true]) ∧ Below w.heap.size w w' := by
  have US2 : Hid (∀ W : World, Calls Try.prog 14 #[.int .u64 16] W fun e w' => e = .returned (.int .i64 2) ∧ w' = W) := fun W => used_any 16 W
  have d1 : decide (x1 < 4) = true := by simp; omega
  go_enter Try.func10, Try.ntmps10
  go_wp2_with fail
  refine (US2.out _).mono ?_
  rintro e u2 ⟨rfl, hu⟩
  subst hu
  go_wp2_with fail
  refine wp_loop_rounds 9 ?_
  rw [rounds_succ]
  go_wp2_with fail
  rw [rounds_succ]
  go_wp2_with fail
  rw [rounds_succ]
  go_wp2_with fail
  rw [rounds_succ]
  go_wp2_with fail
  go_returns
  exact ⟨rfl, Go.Joins.below_alloc3 _ _ _ _⟩
set_option maxRecDepth 8000 in
set_option maxHeartbeats 8000000 in
theorem ref16n1 (x1 x2 : Int) (b1 : 0 ≤ x1 ∧ x1 < 18446744073709551616) (b2 : 0 ≤ x2 ∧ x2 < 18446744073709551616) (l1 : ¬ x1 < 4) (w : World) : Calls Try.prog 10 #[.agg #[.int .u64 16, .int .u64 x1, .int .u64 x2, .int .u64 0, .int .u64 0, .int .u64 0]] w fun e w' => e = .returned (.tuple #[.agg #[.int .i64 0, .int .i64 0, .int .i64 0, .bool false, .bool false, .bool false, .int .u64 0, .int .i64 0, .int .u64 0, .int .i64 0, .int .i64 0, .int .i64 0, .int .i64 0], .bool false]) ∧ Below w.heap.size w w' := by
  have US2 : Hid (∀ W : World, Calls Try.prog 14 #[.int .u64 16] W fun e w' => e = .returned (.int .i64 2) ∧ w' = W) := fun W => used_any 16 W
  have d1 : decide (x1 < 4) = false := by simp; omega
  go_enter Try.func10, Try.ntmps10
  go_wp2_with fail
  refine (US2.out _).mono ?_
  rintro e u2 ⟨rfl, hu⟩
  subst hu
  go_wp2_with fail
  refine wp_loop_rounds 9 ?_
  rw [rounds_succ]
  go_wp2_with fail
  rw [rounds_succ]
  go_wp2_with fail
  rw [rounds_succ]
  go_wp2_with fail
  rw [rounds_succ]
  go_wp2_with fail
  go_returns
  exact ⟨rfl, Go.Joins.below_alloc3 _ _ _ _⟩
set_option maxRecDepth 8000 in
set_option maxHeartbeats 8000000 in
theorem ref11    (w : World) : Calls Try.prog 10 #[.agg #[.int .u64 11, .int .u64 0, .int .u64 0, .int .u64 0, .int .u64 0, .int .u64 0]] w fun e w' => e = .returned (.tuple #[.agg #[.int .i64 11, .int .i64 0, .int .i64 0, .bool false, .bool false, .bool false, .int .u64 0, .int .i64 0, .int .u64 0, .int .i64 0, .int .i64 0, .int .i64 0, .int .i64 0], .bool true]) ∧ Below w.heap.size w w' := by
  have US2 : Hid (∀ W : World, Calls Try.prog 14 #[.int .u64 11] W fun e w' => e = .returned (.int .i64 0) ∧ w' = W) := fun W => used_any 11 W
  go_enter Try.func10, Try.ntmps10
  go_wp2_with fail
  refine (US2.out _).mono ?_
  rintro e u2 ⟨rfl, hu⟩
  subst hu
  go_wp2_with fail
  refine wp_loop_rounds 9 ?_
  rw [rounds_succ]
  go_wp2_with fail
  rw [rounds_succ]
  go_wp2_with fail
  rw [rounds_succ]
  go_wp2_with fail
  rw [rounds_succ]
  go_wp2_with fail
  rw [rounds_succ]
  go_wp2_with fail
  rw [rounds_succ]
  go_wp2_with fail
  go_returns
  exact ⟨rfl, Go.Joins.below_alloc3 _ _ _ _⟩
set_option maxRecDepth 8000 in
set_option maxHeartbeats 8000000 in
theorem ref13    (w : World) : Calls Try.prog 10 #[.agg #[.int .u64 13, .int .u64 0, .int .u64 0, .int .u64 0, .int .u64 0, .int .u64 0]] w fun e w' => e = .returned (.tuple #[.agg #[.int .i64 13, .int .i64 0, .int .i64 0, .bool false, .bool false, .bool false, .int .u64 0, .int .i64 0, .int .u64 0, .int .i64 0, .int .i64 0, .int .i64 0, .int .i64 0], .bool true]) ∧ Below w.heap.size w w' := by
  have US2 : Hid (∀ W : World, Calls Try.prog 14 #[.int .u64 13] W fun e w' => e = .returned (.int .i64 0) ∧ w' = W) := fun W => used_any 13 W
  go_enter Try.func10, Try.ntmps10
  go_wp2_with fail
  refine (US2.out _).mono ?_
  rintro e u2 ⟨rfl, hu⟩
  subst hu
  go_wp2_with fail
  refine wp_loop_rounds 9 ?_
  rw [rounds_succ]
  go_wp2_with fail
  rw [rounds_succ]
  go_wp2_with fail
  rw [rounds_succ]
  go_wp2_with fail
  rw [rounds_succ]
  go_wp2_with fail
  rw [rounds_succ]
  go_wp2_with fail
  rw [rounds_succ]
  go_wp2_with fail
  go_returns
  exact ⟨rfl, Go.Joins.below_alloc3 _ _ _ _⟩
set_option maxRecDepth 8000 in
set_option maxHeartbeats 8000000 in
theorem ref14    (w : World) : Calls Try.prog 10 #[.agg #[.int .u64 14, .int .u64 0, .int .u64 0, .int .u64 0, .int .u64 0, .int .u64 0]] w fun e w' => e = .returned (.tuple #[.agg #[.int .i64 14, .int .i64 0, .int .i64 0, .bool false, .bool false, .bool false, .int .u64 0, .int .i64 0, .int .u64 0, .int .i64 0, .int .i64 0, .int .i64 0, .int .i64 0], .bool true]) ∧ Below w.heap.size w w' := by
  have US2 : Hid (∀ W : World, Calls Try.prog 14 #[.int .u64 14] W fun e w' => e = .returned (.int .i64 0) ∧ w' = W) := fun W => used_any 14 W
  go_enter Try.func10, Try.ntmps10
  go_wp2_with fail
  refine (US2.out _).mono ?_
  rintro e u2 ⟨rfl, hu⟩
  subst hu
  go_wp2_with fail
  refine wp_loop_rounds 9 ?_
  rw [rounds_succ]
  go_wp2_with fail
  rw [rounds_succ]
  go_wp2_with fail
  rw [rounds_succ]
  go_wp2_with fail
  rw [rounds_succ]
  go_wp2_with fail
  rw [rounds_succ]
  go_wp2_with fail
  rw [rounds_succ]
  go_wp2_with fail
  go_returns
  exact ⟨rfl, Go.Joins.below_alloc3 _ _ _ _⟩
end Go.Proofs.Ytccbacjiiffheaa
