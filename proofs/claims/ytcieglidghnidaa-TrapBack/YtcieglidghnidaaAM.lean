/- Move. -/
import Derived.Test.YtcieglidghnidaaA2
namespace Go.Proofs.Ytcieglidghnidaa
open Go.ChangeShapes Go.WideShapes Go.ChangeAt Go.RowKit Go.Maps
set_option linter.unusedSimpArgs false
set_option linter.unusedVariables false

theorem new3 (w : World) (A B : Obj) (cs : Array Value) (t : TypeId) (i : Nat) : (((w.alloc A).alloc B).alloc (.cells cs t)).cell? ⟨w.heap.size + 1 + 1, i, none⟩ = cs[i]? := by
  have h := Go.Joins.cell_of_block (own1 ((w.alloc A).alloc B) (.cells cs t)) i
  rw [World.size_alloc, World.size_alloc] at h
  exact h

set_option maxHeartbeats 4000000 in
theorem move_no (r0 r1 r2 r3 t en : Int) (i : Bool) (a c s0 s1 s2 s3 : Int) (at' : Int) (h : ¬ (0 ≤ at' ∧ at' < 4)) (x : Int) (w : World) : Calls Try.prog 14 #[(St.mk r0 r1 r2 r3 t en i a c s0 s1 s2 s3).val, .int .i64 at', .int .u64 x] w fun e w' => e = .returned (.tuple #[(St.mk r0 r1 r2 r3 t en i a c s0 s1 s2 s3).val, .int .i64 1]) ∧ Below w.heap.size w w' := by
  have C : Hid (∀ (b : Nat) (w : World), w.cell? ⟨b, 0, none⟩ = some (.int .i64 at') → Calls Try.prog 21 #[.slice (some ⟨b, 0, none⟩) 1 1] w fun e w' => e = .returned (.bool false) ∧ w' = w) := fun b w k => by
    have h := regs1 at' b w k
    rw [show decide (0 ≤ (at' : Int) ∧ (at' : Int) < 4) = false by simp; omega] at h
    exact h
  go_enter Try.func14, Try.ntmps14
  go_wp2_with fail
  refine (C.out _ _ ?c).mono ?_
  case c => exact new3 _ _ _ _ _ _
  rintro e u ⟨rfl, hu⟩
  subst hu
  go_wp2_with fail
  go_returns
  exact ⟨rfl, by repeat (first | exact Below.refl _ _ | refine below_new ?_ _ | refine below_drew ?_)⟩
set_option maxHeartbeats 4000000 in
theorem move_0 (r0 r1 r2 r3 t en : Int) (i : Bool) (a c s0 s1 s2 s3 : Int) (x : Int) (w : World) : Calls Try.prog 14 #[(St.mk r0 r1 r2 r3 t en i a c s0 s1 s2 s3).val, .int .i64 0, .int .u64 x] w fun e w' => e = .returned (.tuple #[(St.mk x r1 r2 r3 t en i a c s0 s1 s2 s3).val, .int .i64 0]) ∧ Below w.heap.size w w' := by
  have C : Hid (∀ (b : Nat) (w : World), w.cell? ⟨b, 0, none⟩ = some (.int .i64 0) → Calls Try.prog 21 #[.slice (some ⟨b, 0, none⟩) 1 1] w fun e w' => e = .returned (.bool true) ∧ w' = w) := fun b w k => by
    have h := regs1 0 b w k
    rw [show decide (0 ≤ (0 : Int) ∧ (0 : Int) < 4) = true by simp] at h
    exact h
  go_enter Try.func14, Try.ntmps14
  go_wp2_with fail
  refine (C.out _ _ ?c).mono ?_
  case c => exact new3 _ _ _ _ _ _
  rintro e u ⟨rfl, hu⟩
  subst hu
  go_wp2_with fail
  go_returns
  exact ⟨rfl, by repeat (first | exact Below.refl _ _ | refine below_new ?_ _ | refine below_drew ?_)⟩
set_option maxHeartbeats 4000000 in
theorem move_1 (r0 r1 r2 r3 t en : Int) (i : Bool) (a c s0 s1 s2 s3 : Int) (x : Int) (w : World) : Calls Try.prog 14 #[(St.mk r0 r1 r2 r3 t en i a c s0 s1 s2 s3).val, .int .i64 1, .int .u64 x] w fun e w' => e = .returned (.tuple #[(St.mk r0 x r2 r3 t en i a c s0 s1 s2 s3).val, .int .i64 0]) ∧ Below w.heap.size w w' := by
  have C : Hid (∀ (b : Nat) (w : World), w.cell? ⟨b, 0, none⟩ = some (.int .i64 1) → Calls Try.prog 21 #[.slice (some ⟨b, 0, none⟩) 1 1] w fun e w' => e = .returned (.bool true) ∧ w' = w) := fun b w k => by
    have h := regs1 1 b w k
    rw [show decide (0 ≤ (1 : Int) ∧ (1 : Int) < 4) = true by simp] at h
    exact h
  go_enter Try.func14, Try.ntmps14
  go_wp2_with fail
  refine (C.out _ _ ?c).mono ?_
  case c => exact new3 _ _ _ _ _ _
  rintro e u ⟨rfl, hu⟩
  subst hu
  go_wp2_with fail
  go_returns
  exact ⟨rfl, by repeat (first | exact Below.refl _ _ | refine below_new ?_ _ | refine below_drew ?_)⟩
set_option maxHeartbeats 4000000 in
theorem move_2 (r0 r1 r2 r3 t en : Int) (i : Bool) (a c s0 s1 s2 s3 : Int) (x : Int) (w : World) : Calls Try.prog 14 #[(St.mk r0 r1 r2 r3 t en i a c s0 s1 s2 s3).val, .int .i64 2, .int .u64 x] w fun e w' => e = .returned (.tuple #[(St.mk r0 r1 x r3 t en i a c s0 s1 s2 s3).val, .int .i64 0]) ∧ Below w.heap.size w w' := by
  have C : Hid (∀ (b : Nat) (w : World), w.cell? ⟨b, 0, none⟩ = some (.int .i64 2) → Calls Try.prog 21 #[.slice (some ⟨b, 0, none⟩) 1 1] w fun e w' => e = .returned (.bool true) ∧ w' = w) := fun b w k => by
    have h := regs1 2 b w k
    rw [show decide (0 ≤ (2 : Int) ∧ (2 : Int) < 4) = true by simp] at h
    exact h
  go_enter Try.func14, Try.ntmps14
  go_wp2_with fail
  refine (C.out _ _ ?c).mono ?_
  case c => exact new3 _ _ _ _ _ _
  rintro e u ⟨rfl, hu⟩
  subst hu
  go_wp2_with fail
  go_returns
  exact ⟨rfl, by repeat (first | exact Below.refl _ _ | refine below_new ?_ _ | refine below_drew ?_)⟩
set_option maxHeartbeats 4000000 in
theorem move_3 (r0 r1 r2 r3 t en : Int) (i : Bool) (a c s0 s1 s2 s3 : Int) (x : Int) (w : World) : Calls Try.prog 14 #[(St.mk r0 r1 r2 r3 t en i a c s0 s1 s2 s3).val, .int .i64 3, .int .u64 x] w fun e w' => e = .returned (.tuple #[(St.mk r0 r1 r2 x t en i a c s0 s1 s2 s3).val, .int .i64 0]) ∧ Below w.heap.size w w' := by
  have C : Hid (∀ (b : Nat) (w : World), w.cell? ⟨b, 0, none⟩ = some (.int .i64 3) → Calls Try.prog 21 #[.slice (some ⟨b, 0, none⟩) 1 1] w fun e w' => e = .returned (.bool true) ∧ w' = w) := fun b w k => by
    have h := regs1 3 b w k
    rw [show decide (0 ≤ (3 : Int) ∧ (3 : Int) < 4) = true by simp] at h
    exact h
  go_enter Try.func14, Try.ntmps14
  go_wp2_with fail
  refine (C.out _ _ ?c).mono ?_
  case c => exact new3 _ _ _ _ _ _
  rintro e u ⟨rfl, hu⟩
  subst hu
  go_wp2_with fail
  go_returns
  exact ⟨rfl, by repeat (first | exact Below.refl _ _ | refine below_new ?_ _ | refine below_drew ?_)⟩
end Go.Proofs.Ytcieglidghnidaa
