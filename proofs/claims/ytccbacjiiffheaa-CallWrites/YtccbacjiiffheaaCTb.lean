/- The document's Read, op by op. -/
import Derived.Test.YtccbacjiiffheaaCS
namespace Go.Proofs.Ytccbacjiiffheaa
open Go.ChangeShapes Go.WideShapes Go.ChangeAt Go.RowKit Go.Maps
set_option linter.unusedSimpArgs false
set_option linter.unusedVariables false

set_option maxRecDepth 8000 in
set_option maxHeartbeats 8000000 in
theorem ref2 (x1 x2 : Int) (b1 : 0 ≤ x1 ∧ x1 < 18446744073709551616) (b2 : 0 ≤ x2 ∧ x2 < 18446744073709551616) (l1 : pagesOk x1 x2) (w : World) : Calls Try.prog 10 #[.agg #[.int .u64 2, .int .u64 x1, .int .u64 x2, .int .u64 0, .int .u64 0, .int .u64 0]] w fun e w' => e = .returned (.tuple #[.agg #[.int .i64 2, .int .i64 x1, .int .i64 (x1 + x2), .bool false, .bool false, .bool false, .int .u64 0, .int .i64 0, .int .u64 0, .int .i64 0, .int .i64 0, .int .i64 0, .int .i64 0], .bool true]) ∧ Below w.heap.size w w' := by
  have US2 : Hid (∀ W : World, Calls Try.prog 14 #[.int .u64 2] W fun e w' => e = .returned (.int .i64 2) ∧ w' = W) := fun W => used_any 2 W
  have q1 := l1.1; have q2 := l1.2.1; have q3 := l1.2.2.2
  have PGC : Hid (∀ W : World, Calls Try.prog 24 #[.int .u64 x1, .int .u64 x2] W fun e w' => e = .returned (.bool true) ∧ w' = W) := fun W => by have := rpages_any x1 x2 b1 b2 W; rw [decide_eq_true l1] at this; exact this
  clear l1
  go_enter Try.func10, Try.ntmps10
  go_wp2_with fail
  refine (US2.out _).mono ?_
  rintro e u2 ⟨rfl, hu⟩
  subst hu
  go_wp2_with fail
  refine wp_loop_rounds 9 ?_
  rw [rounds_succ]
  go_wp2_with fail
  rw [rounds_succ]
  go_wp2_with fail
  rw [rounds_succ]
  go_wp2_with fail
  rw [rounds_succ]
  go_wp2_with fail
  refine (PGC.out _).mono ?_
  rintro e u2 ⟨rfl, hu⟩
  subst hu
  go_wp2_with fail
  go_returns
  exact ⟨rfl, Go.Joins.below_alloc3 _ _ _ _⟩
set_option maxRecDepth 8000 in
set_option maxHeartbeats 8000000 in
theorem ref2n1 (x1 x2 : Int) (b1 : 0 ≤ x1 ∧ x1 < 18446744073709551616) (b2 : 0 ≤ x2 ∧ x2 < 18446744073709551616) (l1 : ¬ pagesOk x1 x2) (w : World) : Calls Try.prog 10 #[.agg #[.int .u64 2, .int .u64 x1, .int .u64 x2, .int .u64 0, .int .u64 0, .int .u64 0]] w fun e w' => e = .returned (.tuple #[.agg #[.int .i64 0, .int .i64 0, .int .i64 0, .bool false, .bool false, .bool false, .int .u64 0, .int .i64 0, .int .u64 0, .int .i64 0, .int .i64 0, .int .i64 0, .int .i64 0], .bool false]) ∧ Below w.heap.size w w' := by
  have US2 : Hid (∀ W : World, Calls Try.prog 14 #[.int .u64 2] W fun e w' => e = .returned (.int .i64 2) ∧ w' = W) := fun W => used_any 2 W
  have PGC : Hid (∀ W : World, Calls Try.prog 24 #[.int .u64 x1, .int .u64 x2] W fun e w' => e = .returned (.bool false) ∧ w' = W) := fun W => by have := rpages_any x1 x2 b1 b2 W; rw [decide_eq_false l1] at this; exact this
  clear l1
  go_enter Try.func10, Try.ntmps10
  go_wp2_with fail
  refine (US2.out _).mono ?_
  rintro e u2 ⟨rfl, hu⟩
  subst hu
  go_wp2_with fail
  refine wp_loop_rounds 9 ?_
  rw [rounds_succ]
  go_wp2_with fail
  rw [rounds_succ]
  go_wp2_with fail
  rw [rounds_succ]
  go_wp2_with fail
  rw [rounds_succ]
  go_wp2_with fail
  refine (PGC.out _).mono ?_
  rintro e u2 ⟨rfl, hu⟩
  subst hu
  go_wp2_with fail
  go_returns
  exact ⟨rfl, Go.Joins.below_alloc3 _ _ _ _⟩
set_option maxRecDepth 8000 in
set_option maxHeartbeats 8000000 in
theorem ref4_1 (x1 : Int) (b1 : 0 ≤ x1 ∧ x1 < 18446744073709551616)  (l1 : spotOk x1 1) (w : World) : Calls Try.prog 10 #[.agg #[.int .u64 4, .int .u64 x1, .int .u64 1, .int .u64 0, .int .u64 0, .int .u64 0]] w fun e w' => e = .returned (.tuple #[.agg #[.int .i64 4, .int .i64 0, .int .i64 0, .bool false, .bool false, .bool false, .int .u64 x1, .int .i64 1, .int .u64 0, .int .i64 0, .int .i64 0, .int .i64 0, .int .i64 0], .bool true]) ∧ Below w.heap.size w w' := by
  have US2 : Hid (∀ W : World, Calls Try.prog 14 #[.int .u64 4] W fun e w' => e = .returned (.int .i64 2) ∧ w' = W) := fun W => used_any 4 W
  have PGC : Hid (∀ W : World, Calls Try.prog 25 #[.int .u64 x1, .int .u64 1] W fun e w' => e = .returned (.bool true) ∧ w' = W) := fun W => by have := rspot_any x1 1 b1 (by omega) W; rw [decide_eq_true l1] at this; exact this
  clear l1
  go_enter Try.func10, Try.ntmps10
  go_wp2_with fail
  refine (US2.out _).mono ?_
  rintro e u2 ⟨rfl, hu⟩
  subst hu
  go_wp2_with fail
  refine wp_loop_rounds 9 ?_
  rw [rounds_succ]
  go_wp2_with fail
  rw [rounds_succ]
  go_wp2_with fail
  rw [rounds_succ]
  go_wp2_with fail
  rw [rounds_succ]
  go_wp2_with fail
  refine (PGC.out _).mono ?_
  rintro e u2 ⟨rfl, hu⟩
  subst hu
  go_wp2_with fail
  go_returns
  exact ⟨rfl, Go.Joins.below_alloc3 _ _ _ _⟩
set_option maxRecDepth 8000 in
set_option maxHeartbeats 8000000 in
theorem ref4_2 (x1 : Int) (b1 : 0 ≤ x1 ∧ x1 < 18446744073709551616)  (l1 : spotOk x1 2) (w : World) : Calls Try.prog 10 #[.agg #[.int .u64 4, .int .u64 x1, .int .u64 2, .int .u64 0, .int .u64 0, .int .u64 0]] w fun e w' => e = .returned (.tuple #[.agg #[.int .i64 4, .int .i64 0, .int .i64 0, .bool false, .bool false, .bool false, .int .u64 x1, .int .i64 2, .int .u64 0, .int .i64 0, .int .i64 0, .int .i64 0, .int .i64 0], .bool true]) ∧ Below w.heap.size w w' := by
  have US2 : Hid (∀ W : World, Calls Try.prog 14 #[.int .u64 4] W fun e w' => e = .returned (.int .i64 2) ∧ w' = W) := fun W => used_any 4 W
  have PGC : Hid (∀ W : World, Calls Try.prog 25 #[.int .u64 x1, .int .u64 2] W fun e w' => e = .returned (.bool true) ∧ w' = W) := fun W => by have := rspot_any x1 2 b1 (by omega) W; rw [decide_eq_true l1] at this; exact this
  clear l1
  go_enter Try.func10, Try.ntmps10
  go_wp2_with fail
  refine (US2.out _).mono ?_
  rintro e u2 ⟨rfl, hu⟩
  subst hu
  go_wp2_with fail
  refine wp_loop_rounds 9 ?_
  rw [rounds_succ]
  go_wp2_with fail
  rw [rounds_succ]
  go_wp2_with fail
  rw [rounds_succ]
  go_wp2_with fail
  rw [rounds_succ]
  go_wp2_with fail
  refine (PGC.out _).mono ?_
  rintro e u2 ⟨rfl, hu⟩
  subst hu
  go_wp2_with fail
  go_returns
  exact ⟨rfl, Go.Joins.below_alloc3 _ _ _ _⟩
set_option maxRecDepth 8000 in
set_option maxHeartbeats 8000000 in
theorem ref4_4 (x1 : Int) (b1 : 0 ≤ x1 ∧ x1 < 18446744073709551616)  (l1 : spotOk x1 4) (w : World) : Calls Try.prog 10 #[.agg #[.int .u64 4, .int .u64 x1, .int .u64 4, .int .u64 0, .int .u64 0, .int .u64 0]] w fun e w' => e = .returned (.tuple #[.agg #[.int .i64 4, .int .i64 0, .int .i64 0, .bool false, .bool false, .bool false, .int .u64 x1, .int .i64 4, .int .u64 0, .int .i64 0, .int .i64 0, .int .i64 0, .int .i64 0], .bool true]) ∧ Below w.heap.size w w' := by
  have US2 : Hid (∀ W : World, Calls Try.prog 14 #[.int .u64 4] W fun e w' => e = .returned (.int .i64 2) ∧ w' = W) := fun W => used_any 4 W
  have PGC : Hid (∀ W : World, Calls Try.prog 25 #[.int .u64 x1, .int .u64 4] W fun e w' => e = .returned (.bool true) ∧ w' = W) := fun W => by have := rspot_any x1 4 b1 (by omega) W; rw [decide_eq_true l1] at this; exact this
  clear l1
  go_enter Try.func10, Try.ntmps10
  go_wp2_with fail
  refine (US2.out _).mono ?_
  rintro e u2 ⟨rfl, hu⟩
  subst hu
  go_wp2_with fail
  refine wp_loop_rounds 9 ?_
  rw [rounds_succ]
  go_wp2_with fail
  rw [rounds_succ]
  go_wp2_with fail
  rw [rounds_succ]
  go_wp2_with fail
  rw [rounds_succ]
  go_wp2_with fail
  refine (PGC.out _).mono ?_
  rintro e u2 ⟨rfl, hu⟩
  subst hu
  go_wp2_with fail
  go_returns
  exact ⟨rfl, Go.Joins.below_alloc3 _ _ _ _⟩
set_option maxRecDepth 8000 in
set_option maxHeartbeats 8000000 in
theorem ref4_8 (x1 : Int) (b1 : 0 ≤ x1 ∧ x1 < 18446744073709551616)  (l1 : spotOk x1 8) (w : World) : Calls Try.prog 10 #[.agg #[.int .u64 4, .int .u64 x1, .int .u64 8, .int .u64 0, .int .u64 0, .int .u64 0]] w fun e w' => e = .returned (.tuple #[.agg #[.int .i64 4, .int .i64 0, .int .i64 0, .bool false, .bool false, .bool false, .int .u64 x1, .int .i64 8, .int .u64 0, .int .i64 0, .int .i64 0, .int .i64 0, .int .i64 0], .bool true]) ∧ Below w.heap.size w w' := by
  have US2 : Hid (∀ W : World, Calls Try.prog 14 #[.int .u64 4] W fun e w' => e = .returned (.int .i64 2) ∧ w' = W) := fun W => used_any 4 W
  have PGC : Hid (∀ W : World, Calls Try.prog 25 #[.int .u64 x1, .int .u64 8] W fun e w' => e = .returned (.bool true) ∧ w' = W) := fun W => by have := rspot_any x1 8 b1 (by omega) W; rw [decide_eq_true l1] at this; exact this
  clear l1
  go_enter Try.func10, Try.ntmps10
  go_wp2_with fail
  refine (US2.out _).mono ?_
  rintro e u2 ⟨rfl, hu⟩
  subst hu
  go_wp2_with fail
  refine wp_loop_rounds 9 ?_
  rw [rounds_succ]
  go_wp2_with fail
  rw [rounds_succ]
  go_wp2_with fail
  rw [rounds_succ]
  go_wp2_with fail
  rw [rounds_succ]
  go_wp2_with fail
  refine (PGC.out _).mono ?_
  rintro e u2 ⟨rfl, hu⟩
  subst hu
  go_wp2_with fail
  go_returns
  exact ⟨rfl, Go.Joins.below_alloc3 _ _ _ _⟩
set_option maxRecDepth 8000 in
set_option maxHeartbeats 8000000 in
theorem ref4n1 (x1 x2 : Int) (b1 : 0 ≤ x1 ∧ x1 < 18446744073709551616) (b2 : 0 ≤ x2 ∧ x2 < 18446744073709551616) (l1 : ¬ spotOk x1 x2) (w : World) : Calls Try.prog 10 #[.agg #[.int .u64 4, .int .u64 x1, .int .u64 x2, .int .u64 0, .int .u64 0, .int .u64 0]] w fun e w' => e = .returned (.tuple #[.agg #[.int .i64 0, .int .i64 0, .int .i64 0, .bool false, .bool false, .bool false, .int .u64 0, .int .i64 0, .int .u64 0, .int .i64 0, .int .i64 0, .int .i64 0, .int .i64 0], .bool false]) ∧ Below w.heap.size w w' := by
  have US2 : Hid (∀ W : World, Calls Try.prog 14 #[.int .u64 4] W fun e w' => e = .returned (.int .i64 2) ∧ w' = W) := fun W => used_any 4 W
  have PGC : Hid (∀ W : World, Calls Try.prog 25 #[.int .u64 x1, .int .u64 x2] W fun e w' => e = .returned (.bool false) ∧ w' = W) := fun W => by have := rspot_any x1 x2 b1 b2 W; rw [decide_eq_false l1] at this; exact this
  clear l1
  go_enter Try.func10, Try.ntmps10
  go_wp2_with fail
  refine (US2.out _).mono ?_
  rintro e u2 ⟨rfl, hu⟩
  subst hu
  go_wp2_with fail
  refine wp_loop_rounds 9 ?_
  rw [rounds_succ]
  go_wp2_with fail
  rw [rounds_succ]
  go_wp2_with fail
  rw [rounds_succ]
  go_wp2_with fail
  rw [rounds_succ]
  go_wp2_with fail
  refine (PGC.out _).mono ?_
  rintro e u2 ⟨rfl, hu⟩
  subst hu
  go_wp2_with fail
  go_returns
  exact ⟨rfl, Go.Joins.below_alloc3 _ _ _ _⟩
end Go.Proofs.Ytccbacjiiffheaa
