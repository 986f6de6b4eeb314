/- Containers: Credit, children, End. -/
import Derived.Test.YtpfcpmhpekidkaaQ3
namespace Go.Proofs.Ytpfcpmhpekidkaa.Qu
open Go.ChangeShapes Go.WideShapes Go.ChangeAt Go.RowKit Go.Maps
set_option linter.unusedSimpArgs false
set_option linter.unusedVariables false

def creditN (T : Nat → Nd) (i n : Int) : Int := if (getN T i).live = false then 5 else if n < 0 then 1 else if (getN T i).used < n then 1 else 0
def creditT (T : Nat → Nd) (i n : Int) : Nat → Nd := if creditN T i n = 0 then putT T i.toNat ((T i.toNat).plus (-n)) else T
theorem credit_zero {T : Nat → Nd} {i n : Int} (h : creditN T i n = 0) : (getN T i).live = true ∧ 0 ≤ n ∧ n ≤ (getN T i).used := by
  unfold creditN at h
  by_cases a : (getN T i).live = false
  · rw [if_pos a] at h; omega
  · rw [if_neg a] at h
    by_cases c : n < 0
    · rw [if_pos c] at h; omega
    · rw [if_neg c] at h
      by_cases d : (getN T i).used < n
      · rw [if_pos d] at h; omega
      · exact ⟨by simpa using a, by omega, by omega⟩
/-- the first place that is asked for, or -1 -/
def idxF (f : Nat → Bool) : Nat → Nat → Int
  | 0, _ => -1
  | n + 1, k => if f k then k else idxF f n (k + 1)
def idxN (T : Nat → Nd) (f : Nd → Bool) : Int := idxF (fun j => f (T j)) 64 0
theorem idxF_hit (f : Nat → Bool) : ∀ n k i, k ≤ i → i < k + n → f i = true → (∀ j, k ≤ j → j < i → f j = false) → idxF f n k = i
  | 0, k, i, h1, h2, _, _ => by omega
  | n + 1, k, i, h1, h2, h3, h4 => by
    unfold idxF
    by_cases c : k = i
    · subst c; rw [if_pos h3]
    · rw [if_neg (by rw [h4 k (Nat.le_refl _) (by omega)]; simp)]
      exact idxF_hit f n (k + 1) i (by omega) (by omega) h3 (fun j a c => h4 j (by omega) c)
theorem idxF_miss (f : Nat → Bool) : ∀ n k, (∀ j, k ≤ j → j < k + n → f j = false) → idxF f n k = -1
  | 0, k, _ => rfl
  | n + 1, k, h => by
    unfold idxF
    rw [if_neg (by rw [h k (Nat.le_refl _) (by omega)]; simp)]
    exact idxF_miss f n (k + 1) (fun j a c => h j (by omega) (by omega))
theorem idx_eq {T : Nat → Nd} {f : Nd → Bool} {r : Int} (h : IdxIs T f r) : r = idxN T f := by
  rcases h with ⟨i, h1, rfl, h2, h3⟩ | ⟨rfl, h1⟩
  · exact (idxF_hit _ 64 0 i (Nat.zero_le _) (by omega) h2 (fun j _ a => h3 j a)).symm
  · exact (idxF_miss _ 64 0 (fun j _ a => h1 j (by omega))).symm
theorem idxF_case (f : Nat → Bool) : ∀ n k, (∃ i, k ≤ i ∧ i < k + n ∧ idxF f n k = i ∧ f i = true ∧ ∀ j, k ≤ j → j < i → f j = false) ∨ (idxF f n k = -1 ∧ ∀ j, k ≤ j → j < k + n → f j = false)
  | 0, k => Or.inr ⟨rfl, fun j a c => by omega⟩
  | n + 1, k => by
    unfold idxF
    by_cases c : f k = true
    · exact Or.inl ⟨k, Nat.le_refl _, by omega, by rw [if_pos c], c, fun j a d => by omega⟩
    · rw [if_neg c]
      rcases idxF_case f n (k + 1) with ⟨i, a1, a2, a3, a4, a5⟩ | ⟨a1, a2⟩
      · exact Or.inl ⟨i, by omega, by omega, a3, a4, fun j d e => by
          by_cases g : j = k
          · subst g; simpa using c
          · exact a5 j (by omega) e⟩
      · exact Or.inr ⟨a1, fun j d e => by
          by_cases g : j = k
          · subst g; simpa using c
          · exact a2 j (by omega) (by omega)⟩
theorem idx_is (T : Nat → Nd) (f : Nd → Bool) : IdxIs T f (idxN T f) := by
  rcases idxF_case (fun j => f (T j)) 64 0 with ⟨i, a1, a2, a3, a4, a5⟩ | ⟨a1, a2⟩
  · exact Or.inl ⟨i, by omega, a3, a4, fun j h => a5 j (Nat.zero_le _) h⟩
  · exact Or.inr ⟨a1, fun j h => a2 j (Nat.zero_le _) (by omega)⟩
/-- has a container children? -/
def hasN (T : Nat → Nd) (i : Int) : Bool := decide (0 ≤ idxN T (fun l => l.live && (l.par == i)))
end Go.Proofs.Ytpfcpmhpekidkaa.Qu
