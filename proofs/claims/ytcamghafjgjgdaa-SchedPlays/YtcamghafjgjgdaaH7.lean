/- Lines that go round. -/
import Derived.Test.YtcamghafjgjgdaaH6
namespace Go.Proofs.Ytcamghafjgjgdaa
open Go.ChangeShapes Go.WideShapes Go.ChangeAt Go.RowKit Go.Maps
set_option linter.unusedSimpArgs false
set_option linter.unusedVariables false

/-- a line behind i turns -/
def rotN (L : List Int) (i : Nat) : List Int := L.drop (i % L.length) ++ L.take (i % L.length)
def ylL (L : List Int) : List Int := match L with | [] => [] | x :: r => r ++ [x]
theorem yld_L (S : Qu) : (yldS S).L = ylL S.L := by unfold yldS ylL; obtain ⟨q, t, L⟩ := S; cases L <;> rfl
theorem yld_t {S : Qu} (g : Good S) : (yldS S).t = 0 := by
  have := g.idle
  unfold yldS
  obtain ⟨q, t, L⟩ := S
  cases L with
  | nil => exact this rfl
  | cons x r => rfl
theorem rot_zero (L : List Int) : rotN L 0 = L := by simp [rotN]
theorem rot_len (L : List Int) (i : Nat) : (rotN L i).length = L.length := by
  cases L with
  | nil => simp [rotN]
  | cons x r => have := Nat.mod_lt i (show 0 < (x :: r).length by simp); simp [rotN] at *; omega
theorem rot_next (L : List Int) (i : Nat) : ylL (rotN L i) = rotN L (i + 1) := by
  cases hL : L with
  | nil => simp [rotN, ylL]
  | cons x0 r0 =>
    rw [← hL]
    have hp : 0 < L.length := by rw [hL]; simp
    have hr := Nat.mod_lt i hp
    have e : L.drop (i % L.length) = L[i % L.length] :: L.drop (i % L.length + 1) := List.drop_eq_getElem_cons hr
    rw [rotN, e]
    show (L.drop (i % L.length + 1) ++ L.take (i % L.length)) ++ [L[i % L.length]] = _
    rw [List.append_assoc, List.take_append_getElem hr, rotN]
    by_cases c : i % L.length + 1 = L.length
    · have : (i + 1) % L.length = 0 := by
        have := Nat.div_add_mod i L.length
        rw [show i + 1 = L.length * (i / L.length + 1) by rw [Nat.mul_add]; omega]
        exact Nat.mul_mod_right _ _
      rw [this, c]; simp
    · have : (i + 1) % L.length = i % L.length + 1 := by
        rw [Nat.add_mod, Nat.mod_eq_of_lt (a := i % L.length + 1 % L.length)]
        · rw [Nat.mod_eq_of_lt (show 1 < L.length by omega)]
        · rw [Nat.mod_eq_of_lt (show 1 < L.length by omega)]; omega
      rw [this]
theorem rot_now (L : List Int) (i : Nat) (h : 0 < L.length) : nowV (rotN L i) = L[i % L.length]'(Nat.mod_lt i h) ∧ nowB (rotN L i) = true := by
  have hr := Nat.mod_lt i h
  have e : L.drop (i % L.length) = L[i % L.length] :: L.drop (i % L.length + 1) := List.drop_eq_getElem_cons hr
  rw [rotN, e]
  exact ⟨rfl, rfl⟩
theorem rot_all (L : List Int) : rotN L L.length = L := by simp [rotN]
theorem now_nil : nowV [] = 0 ∧ nowB [] = false := ⟨rfl, rfl⟩
end Go.Proofs.Ytcamghafjgjgdaa
