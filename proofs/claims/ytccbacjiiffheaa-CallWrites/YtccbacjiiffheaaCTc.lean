/- The document's Read, op by op. -/
import Derived.Test.YtccbacjiiffheaaCS
namespace Go.Proofs.Ytccbacjiiffheaa
open Go.ChangeShapes Go.WideShapes Go.ChangeAt Go.RowKit Go.Maps
set_option linter.unusedSimpArgs false
set_option linter.unusedVariables false

set_option maxRecDepth 8000 in
set_option maxHeartbeats 8000000 in
theorem ref5_1 (x1 x3 : Int) (b1 : 0 ≤ x1 ∧ x1 < 18446744073709551616)  (b3 : 0 ≤ x3 ∧ x3 < 18446744073709551616) (l1 : spotOk x1 1) (l2 : x3 < 256) (w : World) : Calls Try.prog 10 #[.agg #[.int .u64 5, .int .u64 x1, .int .u64 1, .int .u64 x3, .int .u64 0, .int .u64 0]] w fun e w' => e = .returned (.tuple #[.agg #[.int .i64 5, .int .i64 0, .int .i64 0, .bool false, .bool false, .bool false, .int .u64 x1, .int .i64 1, .int .u64 x3, .int .i64 0, .int .i64 0, .int .i64 0, .int .i64 0], .bool true]) ∧ Below w.heap.size w w' := by
  have US2 : Hid (∀ W : World, Calls Try.prog 14 #[.int .u64 5] W fun e w' => e = .returned (.int .i64 3) ∧ w' = W) := fun W => used_any 5 W
  have PGC : Hid (∀ W : World, Calls Try.prog 25 #[.int .u64 x1, .int .u64 1] W fun e w' => e = .returned (.bool true) ∧ w' = W) := fun W => by have := rspot_any x1 1 b1 (by omega) W; rw [decide_eq_true l1] at this; exact this
  have sh : x3 / 256 = 0 := Int.ediv_eq_zero_of_lt b3.1 l2
  clear l1
  go_enter Try.func10, Try.ntmps10
  go_wp2_with fail
  refine (US2.out _).mono ?_
  rintro e u2 ⟨rfl, hu⟩
  subst hu
  go_wp2_with fail
  refine wp_loop_rounds 9 ?_
  rw [rounds_succ]
  go_wp2_with fail
  rw [rounds_succ]
  go_wp2_with fail
  rw [rounds_succ]
  go_wp2_with fail
  refine (PGC.out _).mono ?_
  rintro e u2 ⟨rfl, hu⟩
  subst hu
  go_wp2_with fail
  go_returns
  exact ⟨rfl, Go.Joins.below_alloc3 _ _ _ _⟩
set_option maxRecDepth 8000 in
set_option maxHeartbeats 8000000 in
theorem ref5_1n (x1 x3 : Int) (b1 : 0 ≤ x1 ∧ x1 < 18446744073709551616)  (b3 : 0 ≤ x3 ∧ x3 < 18446744073709551616) (l1 : spotOk x1 1) (l2 : ¬ x3 < 256) (w : World) : Calls Try.prog 10 #[.agg #[.int .u64 5, .int .u64 x1, .int .u64 1, .int .u64 x3, .int .u64 0, .int .u64 0]] w fun e w' => e = .returned (.tuple #[.agg #[.int .i64 0, .int .i64 0, .int .i64 0, .bool false, .bool false, .bool false, .int .u64 0, .int .i64 0, .int .u64 0, .int .i64 0, .int .i64 0, .int .i64 0, .int .i64 0], .bool false]) ∧ Below w.heap.size w w' := by
  have US2 : Hid (∀ W : World, Calls Try.prog 14 #[.int .u64 5] W fun e w' => e = .returned (.int .i64 3) ∧ w' = W) := fun W => used_any 5 W
  have PGC : Hid (∀ W : World, Calls Try.prog 25 #[.int .u64 x1, .int .u64 1] W fun e w' => e = .returned (.bool true) ∧ w' = W) := fun W => by have := rspot_any x1 1 b1 (by omega) W; rw [decide_eq_true l1] at this; exact this
  have sh : 0 < x3 / 256 := by omega
  have sh2 : ¬ x3 / 256 = 0 := by omega
  have sh3 : (x3 / 256 == 0) = false := by simp [sh2]
  clear l1
  go_enter Try.func10, Try.ntmps10
  go_wp2_with fail
  refine (US2.out _).mono ?_
  rintro e u2 ⟨rfl, hu⟩
  subst hu
  go_wp2_with fail
  refine wp_loop_rounds 9 ?_
  rw [rounds_succ]
  go_wp2_with fail
  rw [rounds_succ]
  go_wp2_with fail
  rw [rounds_succ]
  go_wp2_with fail
  refine (PGC.out _).mono ?_
  rintro e u2 ⟨rfl, hu⟩
  subst hu
  go_wp2_with fail
  go_returns
  exact ⟨rfl, Go.Joins.below_alloc3 _ _ _ _⟩
set_option maxRecDepth 8000 in
set_option maxHeartbeats 8000000 in
theorem ref5_2 (x1 x3 : Int) (b1 : 0 ≤ x1 ∧ x1 < 18446744073709551616)  (b3 : 0 ≤ x3 ∧ x3 < 18446744073709551616) (l1 : spotOk x1 2) (l2 : x3 < 65536) (w : World) : Calls Try.prog 10 #[.agg #[.int .u64 5, .int .u64 x1, .int .u64 2, .int .u64 x3, .int .u64 0, .int .u64 0]] w fun e w' => e = .returned (.tuple #[.agg #[.int .i64 5, .int .i64 0, .int .i64 0, .bool false, .bool false, .bool false, .int .u64 x1, .int .i64 2, .int .u64 x3, .int .i64 0, .int .i64 0, .int .i64 0, .int .i64 0], .bool true]) ∧ Below w.heap.size w w' := by
  have US2 : Hid (∀ W : World, Calls Try.prog 14 #[.int .u64 5] W fun e w' => e = .returned (.int .i64 3) ∧ w' = W) := fun W => used_any 5 W
  have PGC : Hid (∀ W : World, Calls Try.prog 25 #[.int .u64 x1, .int .u64 2] W fun e w' => e = .returned (.bool true) ∧ w' = W) := fun W => by have := rspot_any x1 2 b1 (by omega) W; rw [decide_eq_true l1] at this; exact this
  have sh : x3 / 65536 = 0 := Int.ediv_eq_zero_of_lt b3.1 l2
  clear l1
  go_enter Try.func10, Try.ntmps10
  go_wp2_with fail
  refine (US2.out _).mono ?_
  rintro e u2 ⟨rfl, hu⟩
  subst hu
  go_wp2_with fail
  refine wp_loop_rounds 9 ?_
  rw [rounds_succ]
  go_wp2_with fail
  rw [rounds_succ]
  go_wp2_with fail
  rw [rounds_succ]
  go_wp2_with fail
  refine (PGC.out _).mono ?_
  rintro e u2 ⟨rfl, hu⟩
  subst hu
  go_wp2_with fail
  go_returns
  exact ⟨rfl, Go.Joins.below_alloc3 _ _ _ _⟩
set_option maxRecDepth 8000 in
set_option maxHeartbeats 8000000 in
theorem ref5_2n (x1 x3 : Int) (b1 : 0 ≤ x1 ∧ x1 < 18446744073709551616)  (b3 : 0 ≤ x3 ∧ x3 < 18446744073709551616) (l1 : spotOk x1 2) (l2 : ¬ x3 < 65536) (w : World) : Calls Try.prog 10 #[.agg #[.int .u64 5, .int .u64 x1, .int .u64 2, .int .u64 x3, .int .u64 0, .int .u64 0]] w fun e w' => e = .returned (.tuple #[.agg #[.int .i64 0, .int .i64 0, .int .i64 0, .bool false, .bool false, .bool false, .int .u64 0, .int .i64 0, .int .u64 0, .int .i64 0, .int .i64 0, .int .i64 0, .int .i64 0], .bool false]) ∧ Below w.heap.size w w' := by
  have US2 : Hid (∀ W : World, Calls Try.prog 14 #[.int .u64 5] W fun e w' => e = .returned (.int .i64 3) ∧ w' = W) := fun W => used_any 5 W
  have PGC : Hid (∀ W : World, Calls Try.prog 25 #[.int .u64 x1, .int .u64 2] W fun e w' => e = .returned (.bool true) ∧ w' = W) := fun W => by have := rspot_any x1 2 b1 (by omega) W; rw [decide_eq_true l1] at this; exact this
  have sh : 0 < x3 / 65536 := by omega
  have sh2 : ¬ x3 / 65536 = 0 := by omega
  have sh3 : (x3 / 65536 == 0) = false := by simp [sh2]
  clear l1
  go_enter Try.func10, Try.ntmps10
  go_wp2_with fail
  refine (US2.out _).mono ?_
  rintro e u2 ⟨rfl, hu⟩
  subst hu
  go_wp2_with fail
  refine wp_loop_rounds 9 ?_
  rw [rounds_succ]
  go_wp2_with fail
  rw [rounds_succ]
  go_wp2_with fail
  rw [rounds_succ]
  go_wp2_with fail
  refine (PGC.out _).mono ?_
  rintro e u2 ⟨rfl, hu⟩
  subst hu
  go_wp2_with fail
  go_returns
  exact ⟨rfl, Go.Joins.below_alloc3 _ _ _ _⟩
set_option maxRecDepth 8000 in
set_option maxHeartbeats 8000000 in
theorem ref5_4 (x1 x3 : Int) (b1 : 0 ≤ x1 ∧ x1 < 18446744073709551616)  (b3 : 0 ≤ x3 ∧ x3 < 18446744073709551616) (l1 : spotOk x1 4) (l2 : x3 < 4294967296) (w : World) : Calls Try.prog 10 #[.agg #[.int .u64 5, .int .u64 x1, .int .u64 4, .int .u64 x3, .int .u64 0, .int .u64 0]] w fun e w' => e = .returned (.tuple #[.agg #[.int .i64 5, .int .i64 0, .int .i64 0, .bool false, .bool false, .bool false, .int .u64 x1, .int .i64 4, .int .u64 x3, .int .i64 0, .int .i64 0, .int .i64 0, .int .i64 0], .bool true]) ∧ Below w.heap.size w w' := by
  have US2 : Hid (∀ W : World, Calls Try.prog 14 #[.int .u64 5] W fun e w' => e = .returned (.int .i64 3) ∧ w' = W) := fun W => used_any 5 W
  have PGC : Hid (∀ W : World, Calls Try.prog 25 #[.int .u64 x1, .int .u64 4] W fun e w' => e = .returned (.bool true) ∧ w' = W) := fun W => by have := rspot_any x1 4 b1 (by omega) W; rw [decide_eq_true l1] at this; exact this
  have sh : x3 / 4294967296 = 0 := Int.ediv_eq_zero_of_lt b3.1 l2
  clear l1
  go_enter Try.func10, Try.ntmps10
  go_wp2_with fail
  refine (US2.out _).mono ?_
  rintro e u2 ⟨rfl, hu⟩
  subst hu
  go_wp2_with fail
  refine wp_loop_rounds 9 ?_
  rw [rounds_succ]
  go_wp2_with fail
  rw [rounds_succ]
  go_wp2_with fail
  rw [rounds_succ]
  go_wp2_with fail
  refine (PGC.out _).mono ?_
  rintro e u2 ⟨rfl, hu⟩
  subst hu
  go_wp2_with fail
  go_returns
  exact ⟨rfl, Go.Joins.below_alloc3 _ _ _ _⟩
set_option maxRecDepth 8000 in
set_option maxHeartbeats 8000000 in
theorem ref5_4n (x1 x3 : Int) (b1 : 0 ≤ x1 ∧ x1 < 18446744073709551616)  (b3 : 0 ≤ x3 ∧ x3 < 18446744073709551616) (l1 : spotOk x1 4) (l2 : ¬ x3 < 4294967296) (w : World) : Calls Try.prog 10 #[.agg #[.int .u64 5, .int .u64 x1, .int .u64 4, .int .u64 x3, .int .u64 0, .int .u64 0]] w fun e w' => e = .returned (.tuple #[.agg #[.int .i64 0, .int .i64 0, .int .i64 0, .bool false, .bool false, .bool false, .int .u64 0, .int .i64 0, .int .u64 0, .int .i64 0, .int .i64 0, .int .i64 0, .int .i64 0], .bool false]) ∧ Below w.heap.size w w' := by
  have US2 : Hid (∀ W : World, Calls Try.prog 14 #[.int .u64 5] W fun e w' => e = .returned (.int .i64 3) ∧ w' = W) := fun W => used_any 5 W
  have PGC : Hid (∀ W : World, Calls Try.prog 25 #[.int .u64 x1, .int .u64 4] W fun e w' => e = .returned (.bool true) ∧ w' = W) := fun W => by have := rspot_any x1 4 b1 (by omega) W; rw [decide_eq_true l1] at this; exact this
  have sh : 0 < x3 / 4294967296 := by omega
  have sh2 : ¬ x3 / 4294967296 = 0 := by omega
  have sh3 : (x3 / 4294967296 == 0) = false := by simp [sh2]
  clear l1
  go_enter Try.func10, Try.ntmps10
  go_wp2_with fail
  refine (US2.out _).mono ?_
  rintro e u2 ⟨rfl, hu⟩
  subst hu
  go_wp2_with fail
  refine wp_loop_rounds 9 ?_
  rw [rounds_succ]
  go_wp2_with fail
  rw [rounds_succ]
  go_wp2_with fail
  rw [rounds_succ]
  go_wp2_with fail
  refine (PGC.out _).mono ?_
  rintro e u2 ⟨rfl, hu⟩
  subst hu
  go_wp2_with fail
  go_returns
  exact ⟨rfl, Go.Joins.below_alloc3 _ _ _ _⟩
set_option maxRecDepth 8000 in
set_option maxHeartbeats 8000000 in
theorem ref5_8 (x1 x3 : Int) (b1 : 0 ≤ x1 ∧ x1 < 18446744073709551616)  (b3 : 0 ≤ x3 ∧ x3 < 18446744073709551616) (l1 : spotOk x1 8) (w : World) : Calls Try.prog 10 #[.agg #[.int .u64 5, .int .u64 x1, .int .u64 8, .int .u64 x3, .int .u64 0, .int .u64 0]] w fun e w' => e = .returned (.tuple #[.agg #[.int .i64 5, .int .i64 0, .int .i64 0, .bool false, .bool false, .bool false, .int .u64 x1, .int .i64 8, .int .u64 x3, .int .i64 0, .int .i64 0, .int .i64 0, .int .i64 0], .bool true]) ∧ Below w.heap.size w w' := by
  have US2 : Hid (∀ W : World, Calls Try.prog 14 #[.int .u64 5] W fun e w' => e = .returned (.int .i64 3) ∧ w' = W) := fun W => used_any 5 W
  have PGC : Hid (∀ W : World, Calls Try.prog 25 #[.int .u64 x1, .int .u64 8] W fun e w' => e = .returned (.bool true) ∧ w' = W) := fun W => by have := rspot_any x1 8 b1 (by omega) W; rw [decide_eq_true l1] at this; exact this
  clear l1
  go_enter Try.func10, Try.ntmps10
  go_wp2_with fail
  refine (US2.out _).mono ?_
  rintro e u2 ⟨rfl, hu⟩
  subst hu
  go_wp2_with fail
  refine wp_loop_rounds 9 ?_
  rw [rounds_succ]
  go_wp2_with fail
  rw [rounds_succ]
  go_wp2_with fail
  rw [rounds_succ]
  go_wp2_with fail
  refine (PGC.out _).mono ?_
  rintro e u2 ⟨rfl, hu⟩
  subst hu
  go_wp2_with fail
  go_returns
  exact ⟨rfl, Go.Joins.below_alloc3 _ _ _ _⟩
set_option maxRecDepth 8000 in
set_option maxHeartbeats 8000000 in
theorem ref5n1 (x1 x2 x3 : Int) (b1 : 0 ≤ x1 ∧ x1 < 18446744073709551616) (b2 : 0 ≤ x2 ∧ x2 < 18446744073709551616) (b3 : 0 ≤ x3 ∧ x3 < 18446744073709551616) (l1 : ¬ spotOk x1 x2) (w : World) : Calls Try.prog 10 #[.agg #[.int .u64 5, .int .u64 x1, .int .u64 x2, .int .u64 x3, .int .u64 0, .int .u64 0]] w fun e w' => e = .returned (.tuple #[.agg #[.int .i64 0, .int .i64 0, .int .i64 0, .bool false, .bool false, .bool false, .int .u64 0, .int .i64 0, .int .u64 0, .int .i64 0, .int .i64 0, .int .i64 0, .int .i64 0], .bool false]) ∧ Below w.heap.size w w' := by
  have US2 : Hid (∀ W : World, Calls Try.prog 14 #[.int .u64 5] W fun e w' => e = .returned (.int .i64 3) ∧ w' = W) := fun W => used_any 5 W
  have PGC : Hid (∀ W : World, Calls Try.prog 25 #[.int .u64 x1, .int .u64 x2] W fun e w' => e = .returned (.bool false) ∧ w' = W) := fun W => by have := rspot_any x1 x2 b1 b2 W; rw [decide_eq_false l1] at this; exact this
  clear l1
  go_enter Try.func10, Try.ntmps10
  go_wp2_with fail
  refine (US2.out _).mono ?_
  rintro e u2 ⟨rfl, hu⟩
  subst hu
  go_wp2_with fail
  refine wp_loop_rounds 9 ?_
  rw [rounds_succ]
  go_wp2_with fail
  rw [rounds_succ]
  go_wp2_with fail
  rw [rounds_succ]
  go_wp2_with fail
  refine (PGC.out _).mono ?_
  rintro e u2 ⟨rfl, hu⟩
  subst hu
  go_wp2_with fail
  go_returns
  exact ⟨rfl, Go.Joins.below_alloc3 _ _ _ _⟩
end Go.Proofs.Ytccbacjiiffheaa
