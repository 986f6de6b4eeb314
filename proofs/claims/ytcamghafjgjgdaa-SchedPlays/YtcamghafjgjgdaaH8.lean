/- Who waits behind the calls. -/
import Derived.Test.YtcamghafjgjgdaaH7
namespace Go.Proofs.Ytcamghafjgjgdaa
open Go.ChangeShapes Go.WideShapes Go.ChangeAt Go.RowKit Go.Maps
set_option linter.unusedSimpArgs false
set_option linter.unusedVariables false

theorem erase_not {L : List Int} (h : L.Nodup) (i : Nat) (hi : i < L.length) : L[i] ∉ L.eraseIdx i := by
  have e : L = L.take i ++ L[i] :: L.drop (i + 1) := by
    rw [← List.drop_eq_getElem_cons hi, List.take_append_drop]
  have h2 : (L.take i ++ L[i] :: L.drop (i + 1)).Nodup := e ▸ h
  rw [List.nodup_append] at h2
  rw [List.eraseIdx_eq_take_drop_succ]
  intro z
  rcases List.mem_append.1 z with z | z
  · exact h2.2.2 _ z _ (List.mem_cons_self) rfl
  · exact (List.nodup_cons.1 h2.2.1).1 z
theorem rem_not {S : Qu} (g : Good S) (p : Int) : p ∉ (remS S p).L := by
  unfold remS
  by_cases e : p ∈ S.L
  · rw [if_pos e]
    have hl := fst_lt.2 e
    have := erase_not g.one (fstAt S.L p) hl
    rw [fst_yes hl] at this
    exact this
  · rw [if_neg e]; exact e
theorem yl_mem (L : List Int) (x : Int) : x ∈ ylL L ↔ x ∈ L := by
  cases L with
  | nil => exact Iff.rfl
  | cons y r => show x ∈ r ++ [y] ↔ _; simp; exact Or.comm
theorem tck_mem (S : Qu) (x : Int) : x ∈ (tckS S).L ↔ x ∈ S.L := by
  have Y : x ∈ (yldS S).L ↔ x ∈ S.L := by rw [yld_L]; exact yl_mem _ _
  unfold tckS
  obtain ⟨q, t, L⟩ := S
  cases L with
  | nil => exact Iff.rfl
  | cons y r =>
    by_cases c : t + 1 < q
    · simp only [if_pos c]
    · simp only [if_neg c]; exact Y
theorem now_not {L : List Int} {p : Int} (h : p ∉ L) : (nowV L = 0 ∧ nowB L = false) ∨ (nowV L ≠ p ∧ nowB L = true) := by
  cases L with
  | nil => exact Or.inl ⟨rfl, rfl⟩
  | cons y r => exact Or.inr ⟨fun e => h (by rw [← e]; exact List.mem_cons_self), rfl⟩
theorem add_new {S : Qu} {p : Int} (p0 : 0 ≤ p) (p1 : p < 16) (h : p ∉ S.L) : addE S p = 0 ∧ addS S p = ⟨S.q, S.t, S.L ++ [p]⟩ := by
  have c : ¬ (p < 0 ∨ 16 ≤ p) := by omega
  rw [addE, addS, if_neg c, if_neg c, if_neg h, if_neg h]
  exact ⟨rfl, rfl⟩
theorem add_again {S : Qu} {p : Int} (p0 : 0 ≤ p) (p1 : p < 16) (h : p ∉ S.L) : addE (addS S p) p = 6 := by
  have c : ¬ (p < 0 ∨ 16 ≤ p) := by omega
  rw [(add_new p0 p1 h).2, addE, if_neg c, if_pos (by simp)]
end Go.Proofs.Ytcamghafjgjgdaa
