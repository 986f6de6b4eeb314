/- The queue: New, Now, Ticks, push. -/
import Derived.Test.YtcamghafjgjgdaaH0
namespace Go.Proofs.Ytcamghafjgjgdaa
open Go.ChangeShapes Go.WideShapes Go.ChangeAt Go.RowKit Go.Maps
set_option linter.unusedSimpArgs false
set_option linter.unusedVariables false

set_option maxHeartbeats 400000 in
theorem new_ok (q : Int) (h0 : 1 ≤ q) (h1 : q ≤ 1000) (w : World) : Calls Try.prog 8 #[.int .i64 q] w fun e w' => e = .returned (.tuple #[.pointer (some ⟨w.heap.size, 0, none⟩), .int .i64 0]) ∧ Own w w' w.heap.size ⟨q, 0, []⟩ := by
  have e1 : decide (q < 1) = false := by simp; omega
  have e2 : decide (1000 < q) = false := by simp; omega
  go_enter Try.func8, Try.ntmps8
  go_wp2_with fail
  go_returns
  refine ⟨rfl, ⟨?_, by simp⟩, Go.Joins.below_alloc1 _ _, Nat.le_refl _⟩
  exact own1 w _
set_option maxHeartbeats 400000 in
theorem new_no (q : Int) (h : q < 1 ∨ 1000 < q) (w : World) : Calls Try.prog 8 #[.int .i64 q] w fun e w' => e = .returned (.tuple #[.pointer none, .int .i64 1]) ∧ w' = w := by
  by_cases c : q < 1
  · have e1 : decide (q < 1) = true := by simp [c]
    go_enter Try.func8, Try.ntmps8
    go_wp2_with fail
    go_returns
    exact ⟨rfl, rfl⟩
  · have e1 : decide (q < 1) = false := by simp; omega
    have e2 : decide (1000 < q) = true := by simp; omega
    go_enter Try.func8, Try.ntmps8
    go_wp2_with fail
    go_returns
    exact ⟨rfl, rfl⟩
set_option maxHeartbeats 400000 in
theorem ticks_any (b : Nat) (S : Qu) (w : World) (h : IsQ w b S) : Calls Try.prog 21 #[.pointer (some ⟨b, 0, none⟩)] w fun e w' => e = .returned (.int .i64 S.t) ∧ w' = w := by
  have c1 := h.c1
  have lt0 := blk_lt h.blk
  clear h
  go_enter Try.func21, Try.ntmps21
  go_wp2_with fail
  go_returns
  exact ⟨rfl, rfl⟩
/-- whose turn it is -/
def nowV (L : List Int) : Int := match L with | [] => 0 | x :: _ => x
def nowB (L : List Int) : Bool := match L with | [] => false | _ :: _ => true
set_option maxHeartbeats 400000 in
theorem now_any (b : Nat) (S : Qu) (w : World) (h : IsQ w b S) : Calls Try.prog 18 #[.pointer (some ⟨b, 0, none⟩)] w fun e w' => e = .returned (.tuple #[.int .i64 (nowV S.L), .bool (nowB S.L)]) ∧ Below w.heap.size w w' := by
  have lt0 := blk_lt h.blk
  have c2 := h.c2
  obtain ⟨q, t, L⟩ := S
  cases L with
  | nil =>
    have e0 : (((0 : Nat) : Int) == 0) = true := rfl
    have c2' : w.cell? ⟨b, 2, none⟩ = some (.int .i64 0) := c2
    clear h c2
    go_enter Try.func18, Try.ntmps18
    go_wp2_with fail
    go_returns
    exact ⟨rfl, Below.refl _ _⟩
  | cons x r =>
    have c3 : w.cell? ⟨b, 3, none⟩ = some (.int .i64 x) := h.cl 0 (by simp)
    obtain ⟨m, hm⟩ : ∃ m : Int, m = (((x :: r).length : Nat) : Int) := ⟨_, rfl⟩
    have m0 : (m == 0) = false := by rw [hm]; simp; omega
    have m1 : ¬ m = 0 := by rw [hm]; simp; omega
    have c2' : w.cell? ⟨b, 2, none⟩ = some (.int .i64 m) := by rw [hm]; exact c2
    clear h c2 hm
    go_enter Try.func18, Try.ntmps18
    go_wp2_with fail
    go_returns
    exact ⟨rfl, Below.refl _ _⟩
end Go.Proofs.Ytcamghafjgjgdaa
