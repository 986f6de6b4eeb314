/- The document's Read, op by op. -/
import Derived.Test.YtccbacjiiffheaaCS
namespace Go.Proofs.Ytccbacjiiffheaa
open Go.ChangeShapes Go.WideShapes Go.ChangeAt Go.RowKit Go.Maps
set_option linter.unusedSimpArgs false
set_option linter.unusedVariables false

set_option maxRecDepth 8000 in
set_option maxHeartbeats 8000000 in
theorem ref6_0 (x1 x2 : Int) (b1 : 0 ≤ x1 ∧ x1 < 18446744073709551616) (b2 : 0 ≤ x2 ∧ x2 < 18446744073709551616)  (l1 : x1 < 34359738368) (l2 : x2 < 16) (w : World) : Calls Try.prog 10 #[.agg #[.int .u64 6, .int .u64 x1, .int .u64 x2, .int .u64 0, .int .u64 0, .int .u64 0]] w fun e w' => e = .returned (.tuple #[.agg #[.int .i64 6, .int .i64 x1, .int .i64 (x1 + 1), .bool false, .bool false, .bool false, .int .u64 0, .int .i64 0, .int .u64 0, .int .i64 x2, .int .i64 0, .int .i64 0, .int .i64 0], .bool true]) ∧ Below w.heap.size w w' := by
  have US2 : Hid (∀ W : World, Calls Try.prog 14 #[.int .u64 6] W fun e w' => e = .returned (.int .i64 3) ∧ w' = W) := fun W => used_any 6 W
  have d1 : decide (x1 < 34359738368) = true := by simp; omega
  have d2 : decide (x2 < 16) = true := by simp; omega
  go_enter Try.func10, Try.ntmps10
  go_wp2_with fail
  refine (US2.out _).mono ?_
  rintro e u2 ⟨rfl, hu⟩
  subst hu
  go_wp2_with fail
  refine wp_loop_rounds 9 ?_
  rw [rounds_succ]
  go_wp2_with fail
  rw [rounds_succ]
  go_wp2_with fail
  rw [rounds_succ]
  go_wp2_with fail
  go_returns
  exact ⟨rfl, Go.Joins.below_alloc3 _ _ _ _⟩
set_option maxRecDepth 8000 in
set_option maxHeartbeats 8000000 in
theorem ref6_1 (x1 x2 : Int) (b1 : 0 ≤ x1 ∧ x1 < 18446744073709551616) (b2 : 0 ≤ x2 ∧ x2 < 18446744073709551616)  (l1 : x1 < 34359738368) (l2 : x2 < 16) (w : World) : Calls Try.prog 10 #[.agg #[.int .u64 6, .int .u64 x1, .int .u64 x2, .int .u64 1, .int .u64 0, .int .u64 0]] w fun e w' => e = .returned (.tuple #[.agg #[.int .i64 6, .int .i64 x1, .int .i64 (x1 + 1), .bool true, .bool false, .bool false, .int .u64 0, .int .i64 0, .int .u64 0, .int .i64 x2, .int .i64 0, .int .i64 0, .int .i64 0], .bool true]) ∧ Below w.heap.size w w' := by
  have US2 : Hid (∀ W : World, Calls Try.prog 14 #[.int .u64 6] W fun e w' => e = .returned (.int .i64 3) ∧ w' = W) := fun W => used_any 6 W
  have d1 : decide (x1 < 34359738368) = true := by simp; omega
  have d2 : decide (x2 < 16) = true := by simp; omega
  go_enter Try.func10, Try.ntmps10
  go_wp2_with fail
  refine (US2.out _).mono ?_
  rintro e u2 ⟨rfl, hu⟩
  subst hu
  go_wp2_with fail
  refine wp_loop_rounds 9 ?_
  rw [rounds_succ]
  go_wp2_with fail
  rw [rounds_succ]
  go_wp2_with fail
  rw [rounds_succ]
  go_wp2_with fail
  go_returns
  exact ⟨rfl, Go.Joins.below_alloc3 _ _ _ _⟩
set_option maxRecDepth 8000 in
set_option maxHeartbeats 8000000 in
theorem ref6n1 (x1 x2 x3 : Int) (b1 : 0 ≤ x1 ∧ x1 < 18446744073709551616) (b2 : 0 ≤ x2 ∧ x2 < 18446744073709551616) (b3 : 0 ≤ x3 ∧ x3 < 18446744073709551616) (l1 : ¬ x1 < 34359738368) (w : World) : Calls Try.prog 10 #[.agg #[.int .u64 6, .int .u64 x1, .int .u64 x2, .int .u64 x3, .int .u64 0, .int .u64 0]] w fun e w' => e = .returned (.tuple #[.agg #[.int .i64 0, .int .i64 0, .int .i64 0, .bool false, .bool false, .bool false, .int .u64 0, .int .i64 0, .int .u64 0, .int .i64 0, .int .i64 0, .int .i64 0, .int .i64 0], .bool false]) ∧ Below w.heap.size w w' := by
  have US2 : Hid (∀ W : World, Calls Try.prog 14 #[.int .u64 6] W fun e w' => e = .returned (.int .i64 3) ∧ w' = W) := fun W => used_any 6 W
  have d1 : decide (x1 < 34359738368) = false := by simp; omega
  go_enter Try.func10, Try.ntmps10
  go_wp2_with fail
  refine (US2.out _).mono ?_
  rintro e u2 ⟨rfl, hu⟩
  subst hu
  go_wp2_with fail
  refine wp_loop_rounds 9 ?_
  rw [rounds_succ]
  go_wp2_with fail
  rw [rounds_succ]
  go_wp2_with fail
  rw [rounds_succ]
  go_wp2_with fail
  go_returns
  exact ⟨rfl, Go.Joins.below_alloc3 _ _ _ _⟩
set_option maxRecDepth 8000 in
set_option maxHeartbeats 8000000 in
theorem ref6n2 (x1 x2 x3 : Int) (b1 : 0 ≤ x1 ∧ x1 < 18446744073709551616) (b2 : 0 ≤ x2 ∧ x2 < 18446744073709551616) (b3 : 0 ≤ x3 ∧ x3 < 18446744073709551616) (l1 : x1 < 34359738368) (l2 : ¬ x2 < 16) (w : World) : Calls Try.prog 10 #[.agg #[.int .u64 6, .int .u64 x1, .int .u64 x2, .int .u64 x3, .int .u64 0, .int .u64 0]] w fun e w' => e = .returned (.tuple #[.agg #[.int .i64 0, .int .i64 0, .int .i64 0, .bool false, .bool false, .bool false, .int .u64 0, .int .i64 0, .int .u64 0, .int .i64 0, .int .i64 0, .int .i64 0, .int .i64 0], .bool false]) ∧ Below w.heap.size w w' := by
  have US2 : Hid (∀ W : World, Calls Try.prog 14 #[.int .u64 6] W fun e w' => e = .returned (.int .i64 3) ∧ w' = W) := fun W => used_any 6 W
  have d1 : decide (x1 < 34359738368) = true := by simp; omega
  have d2 : decide (x2 < 16) = false := by simp; omega
  go_enter Try.func10, Try.ntmps10
  go_wp2_with fail
  refine (US2.out _).mono ?_
  rintro e u2 ⟨rfl, hu⟩
  subst hu
  go_wp2_with fail
  refine wp_loop_rounds 9 ?_
  rw [rounds_succ]
  go_wp2_with fail
  rw [rounds_succ]
  go_wp2_with fail
  rw [rounds_succ]
  go_wp2_with fail
  go_returns
  exact ⟨rfl, Go.Joins.below_alloc3 _ _ _ _⟩
set_option maxRecDepth 8000 in
set_option maxHeartbeats 8000000 in
theorem ref6n3 (x1 x2 x3 : Int) (b1 : 0 ≤ x1 ∧ x1 < 18446744073709551616) (b2 : 0 ≤ x2 ∧ x2 < 18446744073709551616) (b3 : 0 ≤ x3 ∧ x3 < 18446744073709551616) (l1 : x1 < 34359738368) (l2 : x2 < 16) (l3 : ¬ x3 < 2) (w : World) : Calls Try.prog 10 #[.agg #[.int .u64 6, .int .u64 x1, .int .u64 x2, .int .u64 x3, .int .u64 0, .int .u64 0]] w fun e w' => e = .returned (.tuple #[.agg #[.int .i64 0, .int .i64 0, .int .i64 0, .bool false, .bool false, .bool false, .int .u64 0, .int .i64 0, .int .u64 0, .int .i64 0, .int .i64 0, .int .i64 0, .int .i64 0], .bool false]) ∧ Below w.heap.size w w' := by
  have US2 : Hid (∀ W : World, Calls Try.prog 14 #[.int .u64 6] W fun e w' => e = .returned (.int .i64 3) ∧ w' = W) := fun W => used_any 6 W
  have d1 : decide (x1 < 34359738368) = true := by simp; omega
  have d2 : decide (x2 < 16) = true := by simp; omega
  have d3 : decide (x3 < 2) = false := by simp; omega
  go_enter Try.func10, Try.ntmps10
  go_wp2_with fail
  refine (US2.out _).mono ?_
  rintro e u2 ⟨rfl, hu⟩
  subst hu
  go_wp2_with fail
  refine wp_loop_rounds 9 ?_
  rw [rounds_succ]
  go_wp2_with fail
  rw [rounds_succ]
  go_wp2_with fail
  rw [rounds_succ]
  go_wp2_with fail
  go_returns
  exact ⟨rfl, Go.Joins.below_alloc3 _ _ _ _⟩
set_option maxRecDepth 8000 in
set_option maxHeartbeats 8000000 in
theorem ref7 (x1 x2 : Int) (b1 : 0 ≤ x1 ∧ x1 < 18446744073709551616) (b2 : 0 ≤ x2 ∧ x2 < 18446744073709551616) (l1 : x1 < 256) (l2 : x2 < 34359738368) (w : World) : Calls Try.prog 10 #[.agg #[.int .u64 7, .int .u64 x1, .int .u64 x2, .int .u64 0, .int .u64 0, .int .u64 0]] w fun e w' => e = .returned (.tuple #[.agg #[.int .i64 7, .int .i64 x2, .int .i64 (x2 + 1), .bool false, .bool false, .bool false, .int .u64 0, .int .i64 0, .int .u64 0, .int .i64 x1, .int .i64 0, .int .i64 0, .int .i64 0], .bool true]) ∧ Below w.heap.size w w' := by
  have US2 : Hid (∀ W : World, Calls Try.prog 14 #[.int .u64 7] W fun e w' => e = .returned (.int .i64 2) ∧ w' = W) := fun W => used_any 7 W
  have d1 : decide (x1 < 256) = true := by simp; omega
  have d2 : decide (x2 < 34359738368) = true := by simp; omega
  go_enter Try.func10, Try.ntmps10
  go_wp2_with fail
  refine (US2.out _).mono ?_
  rintro e u2 ⟨rfl, hu⟩
  subst hu
  go_wp2_with fail
  refine wp_loop_rounds 9 ?_
  rw [rounds_succ]
  go_wp2_with fail
  rw [rounds_succ]
  go_wp2_with fail
  rw [rounds_succ]
  go_wp2_with fail
  rw [rounds_succ]
  go_wp2_with fail
  go_returns
  exact ⟨rfl, Go.Joins.below_alloc3 _ _ _ _⟩
set_option maxRecDepth 8000 in
set_option maxHeartbeats 8000000 in
theorem ref7n1 (x1 x2 : Int) (b1 : 0 ≤ x1 ∧ x1 < 18446744073709551616) (b2 : 0 ≤ x2 ∧ x2 < 18446744073709551616) (l1 : ¬ x1 < 256) (w : World) : Calls Try.prog 10 #[.agg #[.int .u64 7, .int .u64 x1, .int .u64 x2, .int .u64 0, .int .u64 0, .int .u64 0]] w fun e w' => e = .returned (.tuple #[.agg #[.int .i64 0, .int .i64 0, .int .i64 0, .bool false, .bool false, .bool false, .int .u64 0, .int .i64 0, .int .u64 0, .int .i64 0, .int .i64 0, .int .i64 0, .int .i64 0], .bool false]) ∧ Below w.heap.size w w' := by
  have US2 : Hid (∀ W : World, Calls Try.prog 14 #[.int .u64 7] W fun e w' => e = .returned (.int .i64 2) ∧ w' = W) := fun W => used_any 7 W
  have d1 : decide (x1 < 256) = false := by simp; omega
  go_enter Try.func10, Try.ntmps10
  go_wp2_with fail
  refine (US2.out _).mono ?_
  rintro e u2 ⟨rfl, hu⟩
  subst hu
  go_wp2_with fail
  refine wp_loop_rounds 9 ?_
  rw [rounds_succ]
  go_wp2_with fail
  rw [rounds_succ]
  go_wp2_with fail
  rw [rounds_succ]
  go_wp2_with fail
  rw [rounds_succ]
  go_wp2_with fail
  go_returns
  exact ⟨rfl, Go.Joins.below_alloc3 _ _ _ _⟩
set_option maxRecDepth 8000 in
set_option maxHeartbeats 8000000 in
theorem ref7n2 (x1 x2 : Int) (b1 : 0 ≤ x1 ∧ x1 < 18446744073709551616) (b2 : 0 ≤ x2 ∧ x2 < 18446744073709551616) (l1 : x1 < 256) (l2 : ¬ x2 < 34359738368) (w : World) : Calls Try.prog 10 #[.agg #[.int .u64 7, .int .u64 x1, .int .u64 x2, .int .u64 0, .int .u64 0, .int .u64 0]] w fun e w' => e = .returned (.tuple #[.agg #[.int .i64 0, .int .i64 0, .int .i64 0, .bool false, .bool false, .bool false, .int .u64 0, .int .i64 0, .int .u64 0, .int .i64 0, .int .i64 0, .int .i64 0, .int .i64 0], .bool false]) ∧ Below w.heap.size w w' := by
  have US2 : Hid (∀ W : World, Calls Try.prog 14 #[.int .u64 7] W fun e w' => e = .returned (.int .i64 2) ∧ w' = W) := fun W => used_any 7 W
  have d1 : decide (x1 < 256) = true := by simp; omega
  have d2 : decide (x2 < 34359738368) = false := by simp; omega
  go_enter Try.func10, Try.ntmps10
  go_wp2_with fail
  refine (US2.out _).mono ?_
  rintro e u2 ⟨rfl, hu⟩
  subst hu
  go_wp2_with fail
  refine wp_loop_rounds 9 ?_
  rw [rounds_succ]
  go_wp2_with fail
  rw [rounds_succ]
  go_wp2_with fail
  rw [rounds_succ]
  go_wp2_with fail
  rw [rounds_succ]
  go_wp2_with fail
  go_returns
  exact ⟨rfl, Go.Joins.below_alloc3 _ _ _ _⟩
set_option maxRecDepth 8000 in
set_option maxHeartbeats 8000000 in
theorem ref8 (x1 : Int) (b1 : 0 ≤ x1 ∧ x1 < 18446744073709551616) (l1 : x1 < 256) (w : World) : Calls Try.prog 10 #[.agg #[.int .u64 8, .int .u64 x1, .int .u64 0, .int .u64 0, .int .u64 0, .int .u64 0]] w fun e w' => e = .returned (.tuple #[.agg #[.int .i64 8, .int .i64 0, .int .i64 0, .bool false, .bool false, .bool false, .int .u64 0, .int .i64 0, .int .u64 0, .int .i64 x1, .int .i64 0, .int .i64 0, .int .i64 0], .bool true]) ∧ Below w.heap.size w w' := by
  have US2 : Hid (∀ W : World, Calls Try.prog 14 #[.int .u64 8] W fun e w' => e = .returned (.int .i64 1) ∧ w' = W) := fun W => used_any 8 W
  have d1 : decide (x1 < 256) = true := by simp; omega
  go_enter Try.func10, Try.ntmps10
  go_wp2_with fail
  refine (US2.out _).mono ?_
  rintro e u2 ⟨rfl, hu⟩
  subst hu
  go_wp2_with fail
  refine wp_loop_rounds 9 ?_
  rw [rounds_succ]
  go_wp2_with fail
  rw [rounds_succ]
  go_wp2_with fail
  rw [rounds_succ]
  go_wp2_with fail
  rw [rounds_succ]
  go_wp2_with fail
  rw [rounds_succ]
  go_wp2_with fail
  go_returns
  exact ⟨rfl, Go.Joins.below_alloc3 _ _ _ _⟩
set_option maxRecDepth 8000 in
set_option maxHeartbeats 8000000 in
theorem ref8n1 (x1 : Int) (b1 : 0 ≤ x1 ∧ x1 < 18446744073709551616) (l1 : ¬ x1 < 256) (w : World) : Calls Try.prog 10 #[.agg #[.int .u64 8, .int .u64 x1, .int .u64 0, .int .u64 0, .int .u64 0, .int .u64 0]] w fun e w' => e = .returned (.tuple #[.agg #[.int .i64 0, .int .i64 0, .int .i64 0, .bool false, .bool false, .bool false, .int .u64 0, .int .i64 0, .int .u64 0, .int .i64 0, .int .i64 0, .int .i64 0, .int .i64 0], .bool false]) ∧ Below w.heap.size w w' := by
  have US2 : Hid (∀ W : World, Calls Try.prog 14 #[.int .u64 8] W fun e w' => e = .returned (.int .i64 1) ∧ w' = W) := fun W => used_any 8 W
  have d1 : decide (x1 < 256) = false := by simp; omega
  go_enter Try.func10, Try.ntmps10
  go_wp2_with fail
  refine (US2.out _).mono ?_
  rintro e u2 ⟨rfl, hu⟩
  subst hu
  go_wp2_with fail
  refine wp_loop_rounds 9 ?_
  rw [rounds_succ]
  go_wp2_with fail
  rw [rounds_succ]
  go_wp2_with fail
  rw [rounds_succ]
  go_wp2_with fail
  rw [rounds_succ]
  go_wp2_with fail
  rw [rounds_succ]
  go_wp2_with fail
  go_returns
  exact ⟨rfl, Go.Joins.below_alloc3 _ _ _ _⟩
set_option maxRecDepth 8000 in
set_option maxHeartbeats 8000000 in
theorem ref9 (x1 : Int) (b1 : 0 ≤ x1 ∧ x1 < 18446744073709551616) (l1 : x1 < 256) (w : World) : Calls Try.prog 10 #[.agg #[.int .u64 9, .int .u64 x1, .int .u64 0, .int .u64 0, .int .u64 0, .int .u64 0]] w fun e w' => e = .returned (.tuple #[.agg #[.int .i64 9, .int .i64 0, .int .i64 0, .bool false, .bool false, .bool false, .int .u64 0, .int .i64 0, .int .u64 0, .int .i64 x1, .int .i64 0, .int .i64 0, .int .i64 0], .bool true]) ∧ Below w.heap.size w w' := by
  have US2 : Hid (∀ W : World, Calls Try.prog 14 #[.int .u64 9] W fun e w' => e = .returned (.int .i64 1) ∧ w' = W) := fun W => used_any 9 W
  have d1 : decide (x1 < 256) = true := by simp; omega
  go_enter Try.func10, Try.ntmps10
  go_wp2_with fail
  refine (US2.out _).mono ?_
  rintro e u2 ⟨rfl, hu⟩
  subst hu
  go_wp2_with fail
  refine wp_loop_rounds 9 ?_
  rw [rounds_succ]
  go_wp2_with fail
  rw [rounds_succ]
  go_wp2_with fail
  rw [rounds_succ]
  go_wp2_with fail
  rw [rounds_succ]
  go_wp2_with fail
  rw [rounds_succ]
  go_wp2_with fail
  go_returns
  exact ⟨rfl, Go.Joins.below_alloc3 _ _ _ _⟩
set_option maxRecDepth 8000 in
set_option maxHeartbeats 8000000 in
theorem ref9n1 (x1 : Int) (b1 : 0 ≤ x1 ∧ x1 < 18446744073709551616) (l1 : ¬ x1 < 256) (w : World) : Calls Try.prog 10 #[.agg #[.int .u64 9, .int .u64 x1, .int .u64 0, .int .u64 0, .int .u64 0, .int .u64 0]] w fun e w' => e = .returned (.tuple #[.agg #[.int .i64 0, .int .i64 0, .int .i64 0, .bool false, .bool false, .bool false, .int .u64 0, .int .i64 0, .int .u64 0, .int .i64 0, .int .i64 0, .int .i64 0, .int .i64 0], .bool false]) ∧ Below w.heap.size w w' := by
  have US2 : Hid (∀ W : World, Calls Try.prog 14 #[.int .u64 9] W fun e w' => e = .returned (.int .i64 1) ∧ w' = W) := fun W => used_any 9 W
  have d1 : decide (x1 < 256) = false := by simp; omega
  go_enter Try.func10, Try.ntmps10
  go_wp2_with fail
  refine (US2.out _).mono ?_
  rintro e u2 ⟨rfl, hu⟩
  subst hu
  go_wp2_with fail
  refine wp_loop_rounds 9 ?_
  rw [rounds_succ]
  go_wp2_with fail
  rw [rounds_succ]
  go_wp2_with fail
  rw [rounds_succ]
  go_wp2_with fail
  rw [rounds_succ]
  go_wp2_with fail
  rw [rounds_succ]
  go_wp2_with fail
  go_returns
  exact ⟨rfl, Go.Joins.below_alloc3 _ _ _ _⟩
set_option maxRecDepth 8000 in
set_option maxHeartbeats 8000000 in
theorem ref10 (x1 : Int) (b1 : 0 ≤ x1 ∧ x1 < 18446744073709551616) (l1 : x1 < 140737488355328) (w : World) : Calls Try.prog 10 #[.agg #[.int .u64 10, .int .u64 x1, .int .u64 0, .int .u64 0, .int .u64 0, .int .u64 0]] w fun e w' => e = .returned (.tuple #[.agg #[.int .i64 10, .int .i64 0, .int .i64 0, .bool false, .bool false, .bool false, .int .u64 x1, .int .i64 0, .int .u64 0, .int .i64 0, .int .i64 0, .int .i64 0, .int .i64 0], .bool true]) ∧ Below w.heap.size w w' := by
  have US2 : Hid (∀ W : World, Calls Try.prog 14 #[.int .u64 10] W fun e w' => e = .returned (.int .i64 1) ∧ w' = W) := fun W => used_any 10 W
  have d1 : decide (x1 < 140737488355328) = true := by simp; omega
  go_enter Try.func10, Try.ntmps10
  go_wp2_with fail
  refine (US2.out _).mono ?_
  rintro e u2 ⟨rfl, hu⟩
  subst hu
  go_wp2_with fail
  refine wp_loop_rounds 9 ?_
  rw [rounds_succ]
  go_wp2_with fail
  rw [rounds_succ]
  go_wp2_with fail
  rw [rounds_succ]
  go_wp2_with fail
  rw [rounds_succ]
  go_wp2_with fail
  rw [rounds_succ]
  go_wp2_with fail
  go_returns
  exact ⟨rfl, Go.Joins.below_alloc3 _ _ _ _⟩
set_option maxRecDepth 8000 in
set_option maxHeartbeats 8000000 in
theorem ref10n1 (x1 : Int) (b1 : 0 ≤ x1 ∧ x1 < 18446744073709551616) (l1 : ¬ x1 < 140737488355328) (w : World) : Calls Try.prog 10 #[.agg #[.int .u64 10, .int .u64 x1, .int .u64 0, .int .u64 0, .int .u64 0, .int .u64 0]] w fun e w' => e = .returned (.tuple #[.agg #[.int .i64 0, .int .i64 0, .int .i64 0, .bool false, .bool false, .bool false, .int .u64 0, .int .i64 0, .int .u64 0, .int .i64 0, .int .i64 0, .int .i64 0, .int .i64 0], .bool false]) ∧ Below w.heap.size w w' := by
  have US2 : Hid (∀ W : World, Calls Try.prog 14 #[.int .u64 10] W fun e w' => e = .returned (.int .i64 1) ∧ w' = W) := fun W => used_any 10 W
  have d1 : decide (x1 < 140737488355328) = false := by simp; omega
  go_enter Try.func10, Try.ntmps10
  go_wp2_with fail
  refine (US2.out _).mono ?_
  rintro e u2 ⟨rfl, hu⟩
  subst hu
  go_wp2_with fail
  refine wp_loop_rounds 9 ?_
  rw [rounds_succ]
  go_wp2_with fail
  rw [rounds_succ]
  go_wp2_with fail
  rw [rounds_succ]
  go_wp2_with fail
  rw [rounds_succ]
  go_wp2_with fail
  rw [rounds_succ]
  go_wp2_with fail
  go_returns
  exact ⟨rfl, Go.Joins.below_alloc3 _ _ _ _⟩
end Go.Proofs.Ytccbacjiiffheaa
