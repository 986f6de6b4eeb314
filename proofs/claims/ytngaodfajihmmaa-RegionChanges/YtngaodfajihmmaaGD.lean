/- Regions: lists that are good; the lists that come of a change. -/
import Derived.Test.YtngaodfajihmmaaG6
namespace Go.Proofs.Ytngaodfajihmmaa
open Go.ChangeShapes Go.WideShapes Go.ChangeAt Go.RowKit Go.Maps
set_option linter.unusedSimpArgs false
set_option linter.unusedVariables false

/-- what holds of each region of a good list -/
theorem good_at {L : List Rg} (h : goodB L = true) : L.length ≤ 64 ∧ ∀ i, i < L.length → (0 ≤ (L.getD i Rg.zero).fr ∧ (L.getD i Rg.zero).fr < (L.getD i Rg.zero).to ∧ (L.getD i Rg.zero).to ≤ 34359738368) ∧ (i + 1 < L.length → (L.getD i Rg.zero).to ≤ (L.getD (i + 1) Rg.zero).fr ∧ (L.getD i Rg.zero).joins (L.getD (i + 1) Rg.zero) = false) := by
  unfold goodB at h
  rw [Bool.and_eq_true, allB_iff] at h
  obtain ⟨h1, h2⟩ := h
  have e : ∀ i, i < L.length → endAt L i ≤ (L.getD i Rg.zero).fr ∧ (L.getD i Rg.zero).fr < (L.getD i Rg.zero).to ∧ (L.getD i Rg.zero).to ≤ 34359738368 ∧ jnAt L i = false := fun i hi => by
    have := h2 i hi
    unfold okAt okR at this
    generalize L.getD i Rg.zero = rr at this ⊢
    simp at this
    obtain ⟨⟨a, b, c⟩, d⟩ := this
    exact ⟨by omega, by omega, by omega, by simpa using d⟩
  have z : ∀ i, i < L.length → 0 ≤ (L.getD i Rg.zero).fr := by
    intro i
    induction i with
    | zero => intro hi; have := (e 0 hi).1; exact this
    | succ n ih =>
      intro hi
      have q := ih (by omega)
      have a := e n (by omega)
      have b := (e (n + 1) hi).1
      have : endAt L (n + 1) = (L.getD n Rg.zero).to := rfl
      omega
  refine ⟨by simpa using h1, fun i hi => ⟨⟨z i hi, (e i hi).2.1, (e i hi).2.2.1⟩, fun hj => ⟨(e (i + 1) hj).1, (e (i + 1) hj).2.2.2⟩⟩⟩
theorem good_num {L : List Rg} (h : goodB L = true) : NumL L := fun k hk => by
  have := ((good_at h).2 k hk).1
  exact ⟨by omega, by omega⟩
theorem right_is {f t : Int} (h : rightB f t = true) : 0 ≤ f ∧ f < t ∧ t ≤ 34359738368 ∧ t - f ≤ 65536 := by
  unfold rightB at h; simp at h; omega
theorem check_zero {L : List Rg} {f t : Int} (h : checkN L f t = 0) : rightB f t = true ∧ goodB L = true := by
  unfold checkN at h
  by_cases a : rightB f t = true
  · rw [if_pos a] at h
    by_cases b : goodB L = true
    · exact ⟨a, b⟩
    · rw [if_neg b] at h; omega
  · rw [if_neg a] at h; omega
def protN (L : List Rg) (f t : Int) : Int := if checkN L f t = 0 then (if cntR f t L < t - f then 5 else 0) else checkN L f t
def lowR (f : Int) (r : Rg) : Bool := decide (r.to ≤ f)
def aheadN (L : List Rg) (f : Int) : Nat := (L.takeWhile (lowR f)).length
theorem ahead_is (f : Int) : ∀ (L : List Rg) (k : Nat), k ≤ L.length → (∀ j, j < k → (L.getD j Rg.zero).to ≤ f) → (k = L.length ∨ f < (L.getD k Rg.zero).to) → aheadN L f = k
  | [], k, h, _, _ => by have : k = 0 := by simpa using h
                         subst this; rfl
  | r :: l, 0, _, _, h => by
    rcases h with h | h
    · simp at h
    · have : ¬ (r.to ≤ f) := by have := h; simp [List.getD] at this; omega
      unfold aheadN; rw [List.takeWhile_cons_of_neg (by unfold lowR; simpa using this)]; rfl
  | r :: l, k + 1, hk, hj, h => by
    have h0 : r.to ≤ f := by have := hj 0 (by omega); simpa [List.getD] using this
    unfold aheadN
    rw [List.takeWhile_cons_of_pos (by unfold lowR; simpa using h0), List.length_cons]
    congr 1
    refine ahead_is f l k (by simpa using hk) (fun j q => by have := hj (j + 1) (by omega); simpa [List.getD] using this) ?_
    rcases h with h | h
    · left; simpa using h
    · right; simpa [List.getD] using h
def preL (M : List Rg) (L : List Rg) : List Rg := L.foldl withL M
theorem pre_next (M L : List Rg) (m : Nat) (h : m < L.length) : preL M (L.take (m + 1)) = withL (preL M (L.take m)) (L.getD m Rg.zero) := by
  unfold preL; rw [takeR_next L m h, List.foldl_append]; rfl
theorem pre_len (M L : List Rg) : ∀ m, m ≤ L.length → (preL M (L.take m)).length ≤ M.length + m
  | 0, _ => by simp [preL]
  | m + 1, h => by
    rw [pre_next M L m (by omega)]
    have h1 := pre_len M L m (by omega)
    have h2 := withL_len (preL M (L.take m)) (L.getD m Rg.zero)
    omega
def addL (L : List Rg) (r : Rg) : List Rg := preL (withL (preL [] (L.take (aheadN L r.fr))) r) (L.drop (aheadN L r.fr))
def addN (L : List Rg) (r : Rg) : Int := if checkN L r.fr r.to = 0 then (if 0 < cntR r.fr r.to L then 6 else 0) else checkN L r.fr r.to
end Go.Proofs.Ytngaodfajihmmaa
