/- The document's Raise, Return, Handle, Move. -/
import Derived.Test.YtcieglidghnidaaA1
namespace Go.Proofs.Ytcieglidghnidaa
open Go.ChangeShapes Go.WideShapes Go.ChangeAt Go.RowKit Go.Maps
set_option linter.unusedSimpArgs false
set_option linter.unusedVariables false

set_option maxHeartbeats 4000000 in
theorem rraise_none (r0 r1 r2 r3 t : Int) (i : Bool) (a c s0 s1 s2 s3 : Int) (fa fc : Int) (w : World) : Calls Try.prog 16 #[(St.mk r0 r1 r2 r3 t 0 i a c s0 s1 s2 s3).val, .agg #[.int .u64 fa, .int .i64 fc]] w fun e w' => e = .returned (.tuple #[(St.mk r0 r1 r2 r3 t 0 i a c s0 s1 s2 s3).val, .int .i64 5]) ∧ Below w.heap.size w w' := by
  go_enter Try.func16, Try.ntmps16
  go_wp2_with fail
  go_returns
  exact ⟨rfl, by repeat (first | exact Below.refl _ _ | refine below_new ?_ _ | refine below_drew ?_)⟩
set_option maxHeartbeats 4000000 in
theorem rraise_busy (r0 r1 r2 r3 t en : Int) (a c s0 s1 s2 s3 : Int) (fa fc : Int) (h : en ≠ 0) (w : World) : Calls Try.prog 16 #[(St.mk r0 r1 r2 r3 t en true a c s0 s1 s2 s3).val, .agg #[.int .u64 fa, .int .i64 fc]] w fun e w' => e = .returned (.tuple #[(St.mk r0 r1 r2 r3 t en true a c s0 s1 s2 s3).val, .int .i64 11]) ∧ Below w.heap.size w w' := by
  have e0 : (en == 0) = false := by simpa using h
  go_enter Try.func16, Try.ntmps16
  go_wp2_with fail
  go_returns
  exact ⟨rfl, by repeat (first | exact Below.refl _ _ | refine below_new ?_ _ | refine below_drew ?_)⟩
set_option maxHeartbeats 4000000 in
theorem rraise_ok (r0 r1 r2 r3 t en : Int) (a c s0 s1 s2 s3 : Int) (fa fc cc : Int) (h : en ≠ 0) (hc : IntKind.u64.wrap fc = cc) (w : World) : Calls Try.prog 16 #[(St.mk r0 r1 r2 r3 t en false a c s0 s1 s2 s3).val, .agg #[.int .u64 fa, .int .i64 fc]] w fun e w' => e = .returned (.tuple #[(St.mk fa cc 0 0 t en true fa fc r0 r1 r2 r3).val, .int .i64 0]) ∧ Below w.heap.size w w' := by
  have e0 : (en == 0) = false := by simpa using h
  go_enter Try.func16, Try.ntmps16
  go_wp2_with fail
  go_returns
  exact ⟨rfl, by repeat (first | exact Below.refl _ _ | refine below_new ?_ _ | refine below_drew ?_)⟩
set_option maxHeartbeats 4000000 in
theorem rreturn_none (r0 r1 r2 r3 t en : Int) (a c s0 s1 s2 s3 : Int) (w : World) : Calls Try.prog 17 #[(St.mk r0 r1 r2 r3 t en false a c s0 s1 s2 s3).val] w fun e w' => e = .returned (.tuple #[(St.mk r0 r1 r2 r3 t en false a c s0 s1 s2 s3).val, .int .i64 5]) ∧ Below w.heap.size w w' := by
  go_enter Try.func17, Try.ntmps17
  go_wp2_with fail
  go_returns
  exact ⟨rfl, by repeat (first | exact Below.refl _ _ | refine below_new ?_ _ | refine below_drew ?_)⟩
set_option maxHeartbeats 4000000 in
theorem rreturn_ok (r0 r1 r2 r3 t en : Int) (a c s0 s1 s2 s3 : Int) (w : World) : Calls Try.prog 17 #[(St.mk r0 r1 r2 r3 t en true a c s0 s1 s2 s3).val] w fun e w' => e = .returned (.tuple #[(St.mk s0 s1 s2 s3 t en false 0 0 0 0 0 0).val, .int .i64 0]) ∧ Below w.heap.size w w' := by
  go_enter Try.func17, Try.ntmps17
  go_wp2_with fail
  go_returns
  exact ⟨rfl, by repeat (first | exact Below.refl _ _ | refine below_new ?_ _ | refine below_drew ?_)⟩
set_option maxHeartbeats 4000000 in
theorem rhandle_busy (r0 r1 r2 r3 t en : Int) (a c s0 s1 s2 s3 : Int) (x : Int) (w : World) : Calls Try.prog 18 #[(St.mk r0 r1 r2 r3 t en true a c s0 s1 s2 s3).val, .int .u64 x] w fun e w' => e = .returned (.tuple #[(St.mk r0 r1 r2 r3 t en true a c s0 s1 s2 s3).val, .int .i64 11]) ∧ Below w.heap.size w w' := by
  go_enter Try.func18, Try.ntmps18
  go_wp2_with fail
  go_returns
  exact ⟨rfl, by repeat (first | exact Below.refl _ _ | refine below_new ?_ _ | refine below_drew ?_)⟩
set_option maxHeartbeats 4000000 in
theorem rhandle_ok (r0 r1 r2 r3 t en : Int) (a c s0 s1 s2 s3 : Int) (x : Int) (w : World) : Calls Try.prog 18 #[(St.mk r0 r1 r2 r3 t en false a c s0 s1 s2 s3).val, .int .u64 x] w fun e w' => e = .returned (.tuple #[(St.mk r0 r1 r2 r3 t x false a c s0 s1 s2 s3).val, .int .i64 0]) ∧ Below w.heap.size w w' := by
  go_enter Try.func18, Try.ntmps18
  go_wp2_with fail
  go_returns
  exact ⟨rfl, by repeat (first | exact Below.refl _ _ | refine below_new ?_ _ | refine below_drew ?_)⟩
theorem reg_any (x : Int) (w : World) : Calls Try.prog 24 #[.int .i64 x] w fun e w' => e = .returned (.bool (decide (0 ≤ x ∧ x < 4))) ∧ w' = w := by
  by_cases h : 0 ≤ x
  · by_cases h2 : x < 4
    · rw [decide_eq_true (by omega)]
      have d0 : decide (0 ≤ x) = true := by simp; omega
      have d1 : decide (x < 4) = true := by simp; omega
      go_enter Try.func24, Try.ntmps24
      go_wp2_with fail
      go_ret
      exact ⟨rfl, rfl⟩
    · rw [decide_eq_false (by omega)]
      have d0 : decide (0 ≤ x) = true := by simp; omega
      have d1 : decide (x < 4) = false := by simp; omega
      go_enter Try.func24, Try.ntmps24
      go_wp2_with fail
      go_ret
      exact ⟨rfl, rfl⟩
  · rw [decide_eq_false (by omega)]
    have d0 : decide (0 ≤ x) = false := by simp; omega
    go_enter Try.func24, Try.ntmps24
    go_wp2_with fail
    go_ret
    exact ⟨rfl, rfl⟩
set_option maxHeartbeats 4000000 in
theorem rmove_no (r0 r1 r2 r3 t en : Int) (i : Bool) (a c s0 s1 s2 s3 : Int) (at' : Int) (h : ¬ (0 ≤ at' ∧ at' < 4)) (x : Int) (w : World) : Calls Try.prog 19 #[(St.mk r0 r1 r2 r3 t en i a c s0 s1 s2 s3).val, .int .i64 at', .int .u64 x] w fun e w' => e = .returned (.tuple #[(St.mk r0 r1 r2 r3 t en i a c s0 s1 s2 s3).val, .int .i64 1]) ∧ Below w.heap.size w w' := by
  have C : Hid (∀ (w : World), Calls Try.prog 24 #[.int .i64 at'] w fun e w' => e = .returned (.bool false) ∧ w' = w) := fun w => by
    have h := reg_any at' w
    rw [show decide (0 ≤ (at' : Int) ∧ (at' : Int) < 4) = false by simp; omega] at h
    exact h
  go_enter Try.func19, Try.ntmps19
  go_wp2_with fail
  refine (C.out _).mono ?_
  rintro e u ⟨rfl, hu⟩
  subst hu
  go_wp2_with fail
  go_returns
  exact ⟨rfl, by repeat (first | exact Below.refl _ _ | refine below_new ?_ _ | refine below_drew ?_)⟩
set_option maxHeartbeats 4000000 in
theorem rmove_0 (r0 r1 r2 r3 t en : Int) (i : Bool) (a c s0 s1 s2 s3 : Int) (x : Int) (w : World) : Calls Try.prog 19 #[(St.mk r0 r1 r2 r3 t en i a c s0 s1 s2 s3).val, .int .i64 0, .int .u64 x] w fun e w' => e = .returned (.tuple #[(St.mk x r1 r2 r3 t en i a c s0 s1 s2 s3).val, .int .i64 0]) ∧ Below w.heap.size w w' := by
  have C : Hid (∀ (w : World), Calls Try.prog 24 #[.int .i64 0] w fun e w' => e = .returned (.bool true) ∧ w' = w) := fun w => by
    have h := reg_any 0 w
    rw [show decide (0 ≤ (0 : Int) ∧ (0 : Int) < 4) = true by simp] at h
    exact h
  go_enter Try.func19, Try.ntmps19
  go_wp2_with fail
  refine (C.out _).mono ?_
  rintro e u ⟨rfl, hu⟩
  subst hu
  go_wp2_with fail
  go_returns
  exact ⟨rfl, by repeat (first | exact Below.refl _ _ | refine below_new ?_ _ | refine below_drew ?_)⟩
set_option maxHeartbeats 4000000 in
theorem rmove_1 (r0 r1 r2 r3 t en : Int) (i : Bool) (a c s0 s1 s2 s3 : Int) (x : Int) (w : World) : Calls Try.prog 19 #[(St.mk r0 r1 r2 r3 t en i a c s0 s1 s2 s3).val, .int .i64 1, .int .u64 x] w fun e w' => e = .returned (.tuple #[(St.mk r0 x r2 r3 t en i a c s0 s1 s2 s3).val, .int .i64 0]) ∧ Below w.heap.size w w' := by
  have C : Hid (∀ (w : World), Calls Try.prog 24 #[.int .i64 1] w fun e w' => e = .returned (.bool true) ∧ w' = w) := fun w => by
    have h := reg_any 1 w
    rw [show decide (0 ≤ (1 : Int) ∧ (1 : Int) < 4) = true by simp] at h
    exact h
  go_enter Try.func19, Try.ntmps19
  go_wp2_with fail
  refine (C.out _).mono ?_
  rintro e u ⟨rfl, hu⟩
  subst hu
  go_wp2_with fail
  go_returns
  exact ⟨rfl, by repeat (first | exact Below.refl _ _ | refine below_new ?_ _ | refine below_drew ?_)⟩
set_option maxHeartbeats 4000000 in
theorem rmove_2 (r0 r1 r2 r3 t en : Int) (i : Bool) (a c s0 s1 s2 s3 : Int) (x : Int) (w : World) : Calls Try.prog 19 #[(St.mk r0 r1 r2 r3 t en i a c s0 s1 s2 s3).val, .int .i64 2, .int .u64 x] w fun e w' => e = .returned (.tuple #[(St.mk r0 r1 x r3 t en i a c s0 s1 s2 s3).val, .int .i64 0]) ∧ Below w.heap.size w w' := by
  have C : Hid (∀ (w : World), Calls Try.prog 24 #[.int .i64 2] w fun e w' => e = .returned (.bool true) ∧ w' = w) := fun w => by
    have h := reg_any 2 w
    rw [show decide (0 ≤ (2 : Int) ∧ (2 : Int) < 4) = true by simp] at h
    exact h
  go_enter Try.func19, Try.ntmps19
  go_wp2_with fail
  refine (C.out _).mono ?_
  rintro e u ⟨rfl, hu⟩
  subst hu
  go_wp2_with fail
  go_returns
  exact ⟨rfl, by repeat (first | exact Below.refl _ _ | refine below_new ?_ _ | refine below_drew ?_)⟩
set_option maxHeartbeats 4000000 in
theorem rmove_3 (r0 r1 r2 r3 t en : Int) (i : Bool) (a c s0 s1 s2 s3 : Int) (x : Int) (w : World) : Calls Try.prog 19 #[(St.mk r0 r1 r2 r3 t en i a c s0 s1 s2 s3).val, .int .i64 3, .int .u64 x] w fun e w' => e = .returned (.tuple #[(St.mk r0 r1 r2 x t en i a c s0 s1 s2 s3).val, .int .i64 0]) ∧ Below w.heap.size w w' := by
  have C : Hid (∀ (w : World), Calls Try.prog 24 #[.int .i64 3] w fun e w' => e = .returned (.bool true) ∧ w' = w) := fun w => by
    have h := reg_any 3 w
    rw [show decide (0 ≤ (3 : Int) ∧ (3 : Int) < 4) = true by simp] at h
    exact h
  go_enter Try.func19, Try.ntmps19
  go_wp2_with fail
  refine (C.out _).mono ?_
  rintro e u ⟨rfl, hu⟩
  subst hu
  go_wp2_with fail
  go_returns
  exact ⟨rfl, by repeat (first | exact Below.refl _ _ | refine below_new ?_ _ | refine below_drew ?_)⟩
end Go.Proofs.Ytcieglidghnidaa
