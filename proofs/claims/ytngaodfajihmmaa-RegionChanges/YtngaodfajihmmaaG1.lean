/- Regions: do two make one; the common pages. -/
import Derived.Test.YtngaodfajihmmaaG0
namespace Go.Proofs.Ytngaodfajihmmaa
open Go.ChangeShapes Go.WideShapes Go.ChangeAt Go.RowKit Go.Maps
set_option linter.unusedSimpArgs false
set_option linter.unusedVariables false

theorem below_drew {n : Nat} {w W : World} (h : Below n w W) : Below n w W.drew := ⟨h.os, h.tape, h.output, h.size, h.block⟩
def Rg.perm (r : Rg) : Bool × Bool × Bool := (r.w, r.u, r.x)
def Rg.joins (a b : Rg) : Bool := a.to == b.fr && (a.perm == b.perm && a.kd == b.kd)
set_option maxHeartbeats 1000000 in
theorem make_any (a b : Rg) (w : World) : Calls Try.prog 34 #[a.val, b.val] w fun e w' => e = .returned (.bool (a.joins b)) ∧ Below w.heap.size w w' := by
  obtain ⟨a1, a2, a3, a4, a5, a6⟩ := a
  obtain ⟨b1, b2, b3, b4, b5, b6⟩ := b
  unfold Rg.joins Rg.perm
  by_cases c1 : a2 = b1
  · have d1 : (a2 == b1) = true := by simp [c1]
    by_cases c3 : a6 = b6
    · have d3 : (a6 == b6) = true := by simp [c3]
      subst c1 c3
      go_enter Try.func34, Try.ntmps34
      go_wp2
      all_goals
        go_returns
        exact ⟨by simp_all, Go.Joins.below_alloc2 _ _ _⟩
    · have d3 : (a6 == b6) = false := by simp [c3]
      subst c1
      go_enter Try.func34, Try.ntmps34
      go_wp2
      all_goals
        go_returns
        exact ⟨by simp_all, Go.Joins.below_alloc2 _ _ _⟩
  · have d1 : (a2 == b1) = false := by simp [c1]
    go_enter Try.func34, Try.ntmps34
    go_wp2
    all_goals
      go_returns
      exact ⟨by simp_all, Go.Joins.below_alloc2 _ _ _⟩
theorem max_cases (a b : Int) : (a < b ∧ max a b = b) ∨ (b ≤ a ∧ max a b = a) := by
  by_cases c : a < b
  · exact Or.inl ⟨c, by omega⟩
  · exact Or.inr ⟨by omega, by omega⟩
theorem min_cases (a b : Int) : (b < a ∧ min a b = b) ∨ (a ≤ b ∧ min a b = a) := by
  by_cases c : b < a
  · exact Or.inl ⟨c, by omega⟩
  · exact Or.inr ⟨by omega, by omega⟩
set_option maxHeartbeats 1000000 in
theorem common_any (a1 a2 b1 b2 : Int) (w : World) : Calls Try.prog 35 #[rgV a1 a2, rgV b1 b2] w fun e w' => e = .returned (rgV (max a1 b1) (min a2 b2)) ∧ Below w.heap.size w w' := by
  rcases max_cases a1 b1 with ⟨c, e1⟩ | ⟨c, e1⟩
  all_goals
    rcases min_cases a2 b2 with ⟨d, e2⟩ | ⟨d, e2⟩
    all_goals
      rw [e1, e2]
      clear e1 e2
      go_enter Try.func35, Try.ntmps35
      go_wp2
      all_goals
        go_returns
        exact ⟨by first | rfl | (exfalso; omega), Go.Joins.below_alloc3 _ _ _ _⟩
end Go.Proofs.Ytngaodfajihmmaa
