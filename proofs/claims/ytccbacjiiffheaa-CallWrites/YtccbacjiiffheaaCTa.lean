/- The document's Read, op by op. -/
import Derived.Test.YtccbacjiiffheaaCS
namespace Go.Proofs.Ytccbacjiiffheaa
open Go.ChangeShapes Go.WideShapes Go.ChangeAt Go.RowKit Go.Maps
set_option linter.unusedSimpArgs false
set_option linter.unusedVariables false

set_option maxRecDepth 8000 in
set_option maxHeartbeats 8000000 in
theorem ref1_0 (x1 x2 : Int) (b1 : 0 ≤ x1 ∧ x1 < 18446744073709551616) (b2 : 0 ≤ x2 ∧ x2 < 18446744073709551616)  (l1 : pagesOk x1 x2) (w : World) : Calls Try.prog 10 #[.agg #[.int .u64 1, .int .u64 x1, .int .u64 x2, .int .u64 0, .int .u64 0, .int .u64 0]] w fun e w' => e = .returned (.tuple #[.agg #[.int .i64 1, .int .i64 x1, .int .i64 (x1 + x2), .bool false, .bool true, .bool false, .int .u64 0, .int .i64 0, .int .u64 0, .int .i64 0, .int .i64 0, .int .i64 0, .int .i64 0], .bool true]) ∧ Below w.heap.size w w' := by
  have US2 : Hid (∀ W : World, Calls Try.prog 14 #[.int .u64 1] W fun e w' => e = .returned (.int .i64 3) ∧ w' = W) := fun W => used_any 1 W
  have q1 := l1.1; have q2 := l1.2.1; have q3 := l1.2.2.2
  have PGC : Hid (∀ W : World, Calls Try.prog 24 #[.int .u64 x1, .int .u64 x2] W fun e w' => e = .returned (.bool true) ∧ w' = W) := fun W => by have := rpages_any x1 x2 b1 b2 W; rw [decide_eq_true l1] at this; exact this
  clear l1
  go_enter Try.func10, Try.ntmps10
  go_wp2_with fail
  refine (US2.out _).mono ?_
  rintro e u2 ⟨rfl, hu⟩
  subst hu
  go_wp2_with fail
  refine wp_loop_rounds 9 ?_
  rw [rounds_succ]
  go_wp2_with fail
  rw [rounds_succ]
  go_wp2_with fail
  rw [rounds_succ]
  go_wp2_with fail
  refine (PGC.out _).mono ?_
  rintro e u2 ⟨rfl, hu⟩
  subst hu
  go_wp2_with fail
  go_returns
  exact ⟨rfl, Go.Joins.below_alloc3 _ _ _ _⟩
set_option maxRecDepth 8000 in
set_option maxHeartbeats 8000000 in
theorem ref1_1 (x1 x2 : Int) (b1 : 0 ≤ x1 ∧ x1 < 18446744073709551616) (b2 : 0 ≤ x2 ∧ x2 < 18446744073709551616)  (l1 : pagesOk x1 x2) (w : World) : Calls Try.prog 10 #[.agg #[.int .u64 1, .int .u64 x1, .int .u64 x2, .int .u64 1, .int .u64 0, .int .u64 0]] w fun e w' => e = .returned (.tuple #[.agg #[.int .i64 1, .int .i64 x1, .int .i64 (x1 + x2), .bool true, .bool true, .bool false, .int .u64 0, .int .i64 0, .int .u64 0, .int .i64 0, .int .i64 0, .int .i64 0, .int .i64 0], .bool true]) ∧ Below w.heap.size w w' := by
  have US2 : Hid (∀ W : World, Calls Try.prog 14 #[.int .u64 1] W fun e w' => e = .returned (.int .i64 3) ∧ w' = W) := fun W => used_any 1 W
  have q1 := l1.1; have q2 := l1.2.1; have q3 := l1.2.2.2
  have PGC : Hid (∀ W : World, Calls Try.prog 24 #[.int .u64 x1, .int .u64 x2] W fun e w' => e = .returned (.bool true) ∧ w' = W) := fun W => by have := rpages_any x1 x2 b1 b2 W; rw [decide_eq_true l1] at this; exact this
  clear l1
  go_enter Try.func10, Try.ntmps10
  go_wp2_with fail
  refine (US2.out _).mono ?_
  rintro e u2 ⟨rfl, hu⟩
  subst hu
  go_wp2_with fail
  refine wp_loop_rounds 9 ?_
  rw [rounds_succ]
  go_wp2_with fail
  rw [rounds_succ]
  go_wp2_with fail
  rw [rounds_succ]
  go_wp2_with fail
  refine (PGC.out _).mono ?_
  rintro e u2 ⟨rfl, hu⟩
  subst hu
  go_wp2_with fail
  go_returns
  exact ⟨rfl, Go.Joins.below_alloc3 _ _ _ _⟩
set_option maxRecDepth 8000 in
set_option maxHeartbeats 8000000 in
theorem ref1_2 (x1 x2 : Int) (b1 : 0 ≤ x1 ∧ x1 < 18446744073709551616) (b2 : 0 ≤ x2 ∧ x2 < 18446744073709551616)  (l1 : pagesOk x1 x2) (w : World) : Calls Try.prog 10 #[.agg #[.int .u64 1, .int .u64 x1, .int .u64 x2, .int .u64 2, .int .u64 0, .int .u64 0]] w fun e w' => e = .returned (.tuple #[.agg #[.int .i64 1, .int .i64 x1, .int .i64 (x1 + x2), .bool false, .bool true, .bool true, .int .u64 0, .int .i64 0, .int .u64 0, .int .i64 0, .int .i64 0, .int .i64 0, .int .i64 0], .bool true]) ∧ Below w.heap.size w w' := by
  have US2 : Hid (∀ W : World, Calls Try.prog 14 #[.int .u64 1] W fun e w' => e = .returned (.int .i64 3) ∧ w' = W) := fun W => used_any 1 W
  have q1 := l1.1; have q2 := l1.2.1; have q3 := l1.2.2.2
  have PGC : Hid (∀ W : World, Calls Try.prog 24 #[.int .u64 x1, .int .u64 x2] W fun e w' => e = .returned (.bool true) ∧ w' = W) := fun W => by have := rpages_any x1 x2 b1 b2 W; rw [decide_eq_true l1] at this; exact this
  clear l1
  go_enter Try.func10, Try.ntmps10
  go_wp2_with fail
  refine (US2.out _).mono ?_
  rintro e u2 ⟨rfl, hu⟩
  subst hu
  go_wp2_with fail
  refine wp_loop_rounds 9 ?_
  rw [rounds_succ]
  go_wp2_with fail
  rw [rounds_succ]
  go_wp2_with fail
  rw [rounds_succ]
  go_wp2_with fail
  refine (PGC.out _).mono ?_
  rintro e u2 ⟨rfl, hu⟩
  subst hu
  go_wp2_with fail
  go_returns
  exact ⟨rfl, Go.Joins.below_alloc3 _ _ _ _⟩
set_option maxRecDepth 8000 in
set_option maxHeartbeats 8000000 in
theorem ref1_3 (x1 x2 : Int) (b1 : 0 ≤ x1 ∧ x1 < 18446744073709551616) (b2 : 0 ≤ x2 ∧ x2 < 18446744073709551616)  (l1 : pagesOk x1 x2) (w : World) : Calls Try.prog 10 #[.agg #[.int .u64 1, .int .u64 x1, .int .u64 x2, .int .u64 3, .int .u64 0, .int .u64 0]] w fun e w' => e = .returned (.tuple #[.agg #[.int .i64 1, .int .i64 x1, .int .i64 (x1 + x2), .bool true, .bool true, .bool true, .int .u64 0, .int .i64 0, .int .u64 0, .int .i64 0, .int .i64 0, .int .i64 0, .int .i64 0], .bool true]) ∧ Below w.heap.size w w' := by
  have US2 : Hid (∀ W : World, Calls Try.prog 14 #[.int .u64 1] W fun e w' => e = .returned (.int .i64 3) ∧ w' = W) := fun W => used_any 1 W
  have q1 := l1.1; have q2 := l1.2.1; have q3 := l1.2.2.2
  have PGC : Hid (∀ W : World, Calls Try.prog 24 #[.int .u64 x1, .int .u64 x2] W fun e w' => e = .returned (.bool true) ∧ w' = W) := fun W => by have := rpages_any x1 x2 b1 b2 W; rw [decide_eq_true l1] at this; exact this
  clear l1
  go_enter Try.func10, Try.ntmps10
  go_wp2_with fail
  refine (US2.out _).mono ?_
  rintro e u2 ⟨rfl, hu⟩
  subst hu
  go_wp2_with fail
  refine wp_loop_rounds 9 ?_
  rw [rounds_succ]
  go_wp2_with fail
  rw [rounds_succ]
  go_wp2_with fail
  rw [rounds_succ]
  go_wp2_with fail
  refine (PGC.out _).mono ?_
  rintro e u2 ⟨rfl, hu⟩
  subst hu
  go_wp2_with fail
  go_returns
  exact ⟨rfl, Go.Joins.below_alloc3 _ _ _ _⟩
set_option maxRecDepth 8000 in
set_option maxHeartbeats 8000000 in
theorem ref1n1 (x1 x2 x3 : Int) (b1 : 0 ≤ x1 ∧ x1 < 18446744073709551616) (b2 : 0 ≤ x2 ∧ x2 < 18446744073709551616) (b3 : 0 ≤ x3 ∧ x3 < 18446744073709551616) (l1 : ¬ pagesOk x1 x2) (w : World) : Calls Try.prog 10 #[.agg #[.int .u64 1, .int .u64 x1, .int .u64 x2, .int .u64 x3, .int .u64 0, .int .u64 0]] w fun e w' => e = .returned (.tuple #[.agg #[.int .i64 0, .int .i64 0, .int .i64 0, .bool false, .bool false, .bool false, .int .u64 0, .int .i64 0, .int .u64 0, .int .i64 0, .int .i64 0, .int .i64 0, .int .i64 0], .bool false]) ∧ Below w.heap.size w w' := by
  have US2 : Hid (∀ W : World, Calls Try.prog 14 #[.int .u64 1] W fun e w' => e = .returned (.int .i64 3) ∧ w' = W) := fun W => used_any 1 W
  have PGC : Hid (∀ W : World, Calls Try.prog 24 #[.int .u64 x1, .int .u64 x2] W fun e w' => e = .returned (.bool false) ∧ w' = W) := fun W => by have := rpages_any x1 x2 b1 b2 W; rw [decide_eq_false l1] at this; exact this
  clear l1
  go_enter Try.func10, Try.ntmps10
  go_wp2_with fail
  refine (US2.out _).mono ?_
  rintro e u2 ⟨rfl, hu⟩
  subst hu
  go_wp2_with fail
  refine wp_loop_rounds 9 ?_
  rw [rounds_succ]
  go_wp2_with fail
  rw [rounds_succ]
  go_wp2_with fail
  rw [rounds_succ]
  go_wp2_with fail
  refine (PGC.out _).mono ?_
  rintro e u2 ⟨rfl, hu⟩
  subst hu
  go_wp2_with fail
  go_returns
  exact ⟨rfl, Go.Joins.below_alloc3 _ _ _ _⟩
set_option maxRecDepth 8000 in
set_option maxHeartbeats 8000000 in
theorem ref1n2 (x1 x2 x3 : Int) (b1 : 0 ≤ x1 ∧ x1 < 18446744073709551616) (b2 : 0 ≤ x2 ∧ x2 < 18446744073709551616) (b3 : 0 ≤ x3 ∧ x3 < 18446744073709551616) (l1 : pagesOk x1 x2) (l2 : ¬ x3 < 4) (w : World) : Calls Try.prog 10 #[.agg #[.int .u64 1, .int .u64 x1, .int .u64 x2, .int .u64 x3, .int .u64 0, .int .u64 0]] w fun e w' => e = .returned (.tuple #[.agg #[.int .i64 0, .int .i64 0, .int .i64 0, .bool false, .bool false, .bool false, .int .u64 0, .int .i64 0, .int .u64 0, .int .i64 0, .int .i64 0, .int .i64 0, .int .i64 0], .bool false]) ∧ Below w.heap.size w w' := by
  have US2 : Hid (∀ W : World, Calls Try.prog 14 #[.int .u64 1] W fun e w' => e = .returned (.int .i64 3) ∧ w' = W) := fun W => used_any 1 W
  have PGC : Hid (∀ W : World, Calls Try.prog 24 #[.int .u64 x1, .int .u64 x2] W fun e w' => e = .returned (.bool true) ∧ w' = W) := fun W => by have := rpages_any x1 x2 b1 b2 W; rw [decide_eq_true l1] at this; exact this
  have d3 : decide (x3 < 4) = false := by simp; omega
  clear l1
  go_enter Try.func10, Try.ntmps10
  go_wp2_with fail
  refine (US2.out _).mono ?_
  rintro e u2 ⟨rfl, hu⟩
  subst hu
  go_wp2_with fail
  refine wp_loop_rounds 9 ?_
  rw [rounds_succ]
  go_wp2_with fail
  rw [rounds_succ]
  go_wp2_with fail
  rw [rounds_succ]
  go_wp2_with fail
  refine (PGC.out _).mono ?_
  rintro e u2 ⟨rfl, hu⟩
  subst hu
  go_wp2_with fail
  go_returns
  exact ⟨rfl, Go.Joins.below_alloc3 _ _ _ _⟩
set_option maxRecDepth 8000 in
set_option maxHeartbeats 8000000 in
theorem ref3_0 (x1 x2 : Int) (b1 : 0 ≤ x1 ∧ x1 < 18446744073709551616) (b2 : 0 ≤ x2 ∧ x2 < 18446744073709551616)  (l1 : pagesOk x1 x2) (w : World) : Calls Try.prog 10 #[.agg #[.int .u64 3, .int .u64 x1, .int .u64 x2, .int .u64 0, .int .u64 0, .int .u64 0]] w fun e w' => e = .returned (.tuple #[.agg #[.int .i64 3, .int .i64 x1, .int .i64 (x1 + x2), .bool false, .bool true, .bool false, .int .u64 0, .int .i64 0, .int .u64 0, .int .i64 0, .int .i64 0, .int .i64 0, .int .i64 0], .bool true]) ∧ Below w.heap.size w w' := by
  have US2 : Hid (∀ W : World, Calls Try.prog 14 #[.int .u64 3] W fun e w' => e = .returned (.int .i64 3) ∧ w' = W) := fun W => used_any 3 W
  have q1 := l1.1; have q2 := l1.2.1; have q3 := l1.2.2.2
  have PGC : Hid (∀ W : World, Calls Try.prog 24 #[.int .u64 x1, .int .u64 x2] W fun e w' => e = .returned (.bool true) ∧ w' = W) := fun W => by have := rpages_any x1 x2 b1 b2 W; rw [decide_eq_true l1] at this; exact this
  clear l1
  go_enter Try.func10, Try.ntmps10
  go_wp2_with fail
  refine (US2.out _).mono ?_
  rintro e u2 ⟨rfl, hu⟩
  subst hu
  go_wp2_with fail
  refine wp_loop_rounds 9 ?_
  rw [rounds_succ]
  go_wp2_with fail
  rw [rounds_succ]
  go_wp2_with fail
  rw [rounds_succ]
  go_wp2_with fail
  refine (PGC.out _).mono ?_
  rintro e u2 ⟨rfl, hu⟩
  subst hu
  go_wp2_with fail
  go_returns
  exact ⟨rfl, Go.Joins.below_alloc3 _ _ _ _⟩
set_option maxRecDepth 8000 in
set_option maxHeartbeats 8000000 in
theorem ref3_1 (x1 x2 : Int) (b1 : 0 ≤ x1 ∧ x1 < 18446744073709551616) (b2 : 0 ≤ x2 ∧ x2 < 18446744073709551616)  (l1 : pagesOk x1 x2) (w : World) : Calls Try.prog 10 #[.agg #[.int .u64 3, .int .u64 x1, .int .u64 x2, .int .u64 1, .int .u64 0, .int .u64 0]] w fun e w' => e = .returned (.tuple #[.agg #[.int .i64 3, .int .i64 x1, .int .i64 (x1 + x2), .bool true, .bool true, .bool false, .int .u64 0, .int .i64 0, .int .u64 0, .int .i64 0, .int .i64 0, .int .i64 0, .int .i64 0], .bool true]) ∧ Below w.heap.size w w' := by
  have US2 : Hid (∀ W : World, Calls Try.prog 14 #[.int .u64 3] W fun e w' => e = .returned (.int .i64 3) ∧ w' = W) := fun W => used_any 3 W
  have q1 := l1.1; have q2 := l1.2.1; have q3 := l1.2.2.2
  have PGC : Hid (∀ W : World, Calls Try.prog 24 #[.int .u64 x1, .int .u64 x2] W fun e w' => e = .returned (.bool true) ∧ w' = W) := fun W => by have := rpages_any x1 x2 b1 b2 W; rw [decide_eq_true l1] at this; exact this
  clear l1
  go_enter Try.func10, Try.ntmps10
  go_wp2_with fail
  refine (US2.out _).mono ?_
  rintro e u2 ⟨rfl, hu⟩
  subst hu
  go_wp2_with fail
  refine wp_loop_rounds 9 ?_
  rw [rounds_succ]
  go_wp2_with fail
  rw [rounds_succ]
  go_wp2_with fail
  rw [rounds_succ]
  go_wp2_with fail
  refine (PGC.out _).mono ?_
  rintro e u2 ⟨rfl, hu⟩
  subst hu
  go_wp2_with fail
  go_returns
  exact ⟨rfl, Go.Joins.below_alloc3 _ _ _ _⟩
set_option maxRecDepth 8000 in
set_option maxHeartbeats 8000000 in
theorem ref3_2 (x1 x2 : Int) (b1 : 0 ≤ x1 ∧ x1 < 18446744073709551616) (b2 : 0 ≤ x2 ∧ x2 < 18446744073709551616)  (l1 : pagesOk x1 x2) (w : World) : Calls Try.prog 10 #[.agg #[.int .u64 3, .int .u64 x1, .int .u64 x2, .int .u64 2, .int .u64 0, .int .u64 0]] w fun e w' => e = .returned (.tuple #[.agg #[.int .i64 3, .int .i64 x1, .int .i64 (x1 + x2), .bool false, .bool true, .bool true, .int .u64 0, .int .i64 0, .int .u64 0, .int .i64 0, .int .i64 0, .int .i64 0, .int .i64 0], .bool true]) ∧ Below w.heap.size w w' := by
  have US2 : Hid (∀ W : World, Calls Try.prog 14 #[.int .u64 3] W fun e w' => e = .returned (.int .i64 3) ∧ w' = W) := fun W => used_any 3 W
  have q1 := l1.1; have q2 := l1.2.1; have q3 := l1.2.2.2
  have PGC : Hid (∀ W : World, Calls Try.prog 24 #[.int .u64 x1, .int .u64 x2] W fun e w' => e = .returned (.bool true) ∧ w' = W) := fun W => by have := rpages_any x1 x2 b1 b2 W; rw [decide_eq_true l1] at this; exact this
  clear l1
  go_enter Try.func10, Try.ntmps10
  go_wp2_with fail
  refine (US2.out _).mono ?_
  rintro e u2 ⟨rfl, hu⟩
  subst hu
  go_wp2_with fail
  refine wp_loop_rounds 9 ?_
  rw [rounds_succ]
  go_wp2_with fail
  rw [rounds_succ]
  go_wp2_with fail
  rw [rounds_succ]
  go_wp2_with fail
  refine (PGC.out _).mono ?_
  rintro e u2 ⟨rfl, hu⟩
  subst hu
  go_wp2_with fail
  go_returns
  exact ⟨rfl, Go.Joins.below_alloc3 _ _ _ _⟩
set_option maxRecDepth 8000 in
set_option maxHeartbeats 8000000 in
theorem ref3_3 (x1 x2 : Int) (b1 : 0 ≤ x1 ∧ x1 < 18446744073709551616) (b2 : 0 ≤ x2 ∧ x2 < 18446744073709551616)  (l1 : pagesOk x1 x2) (w : World) : Calls Try.prog 10 #[.agg #[.int .u64 3, .int .u64 x1, .int .u64 x2, .int .u64 3, .int .u64 0, .int .u64 0]] w fun e w' => e = .returned (.tuple #[.agg #[.int .i64 3, .int .i64 x1, .int .i64 (x1 + x2), .bool true, .bool true, .bool true, .int .u64 0, .int .i64 0, .int .u64 0, .int .i64 0, .int .i64 0, .int .i64 0, .int .i64 0], .bool true]) ∧ Below w.heap.size w w' := by
  have US2 : Hid (∀ W : World, Calls Try.prog 14 #[.int .u64 3] W fun e w' => e = .returned (.int .i64 3) ∧ w' = W) := fun W => used_any 3 W
  have q1 := l1.1; have q2 := l1.2.1; have q3 := l1.2.2.2
  have PGC : Hid (∀ W : World, Calls Try.prog 24 #[.int .u64 x1, .int .u64 x2] W fun e w' => e = .returned (.bool true) ∧ w' = W) := fun W => by have := rpages_any x1 x2 b1 b2 W; rw [decide_eq_true l1] at this; exact this
  clear l1
  go_enter Try.func10, Try.ntmps10
  go_wp2_with fail
  refine (US2.out _).mono ?_
  rintro e u2 ⟨rfl, hu⟩
  subst hu
  go_wp2_with fail
  refine wp_loop_rounds 9 ?_
  rw [rounds_succ]
  go_wp2_with fail
  rw [rounds_succ]
  go_wp2_with fail
  rw [rounds_succ]
  go_wp2_with fail
  refine (PGC.out _).mono ?_
  rintro e u2 ⟨rfl, hu⟩
  subst hu
  go_wp2_with fail
  go_returns
  exact ⟨rfl, Go.Joins.below_alloc3 _ _ _ _⟩
set_option maxRecDepth 8000 in
set_option maxHeartbeats 8000000 in
theorem ref3n1 (x1 x2 x3 : Int) (b1 : 0 ≤ x1 ∧ x1 < 18446744073709551616) (b2 : 0 ≤ x2 ∧ x2 < 18446744073709551616) (b3 : 0 ≤ x3 ∧ x3 < 18446744073709551616) (l1 : ¬ pagesOk x1 x2) (w : World) : Calls Try.prog 10 #[.agg #[.int .u64 3, .int .u64 x1, .int .u64 x2, .int .u64 x3, .int .u64 0, .int .u64 0]] w fun e w' => e = .returned (.tuple #[.agg #[.int .i64 0, .int .i64 0, .int .i64 0, .bool false, .bool false, .bool false, .int .u64 0, .int .i64 0, .int .u64 0, .int .i64 0, .int .i64 0, .int .i64 0, .int .i64 0], .bool false]) ∧ Below w.heap.size w w' := by
  have US2 : Hid (∀ W : World, Calls Try.prog 14 #[.int .u64 3] W fun e w' => e = .returned (.int .i64 3) ∧ w' = W) := fun W => used_any 3 W
  have PGC : Hid (∀ W : World, Calls Try.prog 24 #[.int .u64 x1, .int .u64 x2] W fun e w' => e = .returned (.bool false) ∧ w' = W) := fun W => by have := rpages_any x1 x2 b1 b2 W; rw [decide_eq_false l1] at this; exact this
  clear l1
  go_enter Try.func10, Try.ntmps10
  go_wp2_with fail
  refine (US2.out _).mono ?_
  rintro e u2 ⟨rfl, hu⟩
  subst hu
  go_wp2_with fail
  refine wp_loop_rounds 9 ?_
  rw [rounds_succ]
  go_wp2_with fail
  rw [rounds_succ]
  go_wp2_with fail
  rw [rounds_succ]
  go_wp2_with fail
  refine (PGC.out _).mono ?_
  rintro e u2 ⟨rfl, hu⟩
  subst hu
  go_wp2_with fail
  go_returns
  exact ⟨rfl, Go.Joins.below_alloc3 _ _ _ _⟩
set_option maxRecDepth 8000 in
set_option maxHeartbeats 8000000 in
theorem ref3n2 (x1 x2 x3 : Int) (b1 : 0 ≤ x1 ∧ x1 < 18446744073709551616) (b2 : 0 ≤ x2 ∧ x2 < 18446744073709551616) (b3 : 0 ≤ x3 ∧ x3 < 18446744073709551616) (l1 : pagesOk x1 x2) (l2 : ¬ x3 < 4) (w : World) : Calls Try.prog 10 #[.agg #[.int .u64 3, .int .u64 x1, .int .u64 x2, .int .u64 x3, .int .u64 0, .int .u64 0]] w fun e w' => e = .returned (.tuple #[.agg #[.int .i64 0, .int .i64 0, .int .i64 0, .bool false, .bool false, .bool false, .int .u64 0, .int .i64 0, .int .u64 0, .int .i64 0, .int .i64 0, .int .i64 0, .int .i64 0], .bool false]) ∧ Below w.heap.size w w' := by
  have US2 : Hid (∀ W : World, Calls Try.prog 14 #[.int .u64 3] W fun e w' => e = .returned (.int .i64 3) ∧ w' = W) := fun W => used_any 3 W
  have PGC : Hid (∀ W : World, Calls Try.prog 24 #[.int .u64 x1, .int .u64 x2] W fun e w' => e = .returned (.bool true) ∧ w' = W) := fun W => by have := rpages_any x1 x2 b1 b2 W; rw [decide_eq_true l1] at this; exact this
  have d3 : decide (x3 < 4) = false := by simp; omega
  clear l1
  go_enter Try.func10, Try.ntmps10
  go_wp2_with fail
  refine (US2.out _).mono ?_
  rintro e u2 ⟨rfl, hu⟩
  subst hu
  go_wp2_with fail
  refine wp_loop_rounds 9 ?_
  rw [rounds_succ]
  go_wp2_with fail
  rw [rounds_succ]
  go_wp2_with fail
  rw [rounds_succ]
  go_wp2_with fail
  refine (PGC.out _).mono ?_
  rintro e u2 ⟨rfl, hu⟩
  subst hu
  go_wp2_with fail
  go_returns
  exact ⟨rfl, Go.Joins.below_alloc3 _ _ _ _⟩
end Go.Proofs.Ytccbacjiiffheaa
