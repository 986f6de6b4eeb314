/- Grants: how many there are; what one process offers. -/
import Derived.Test.YtenfdcjnfgjilaaS6
namespace Go.Proofs.Ytenfdcjnfgjilaa
open Go.ChangeShapes Go.WideShapes Go.ChangeAt Go.RowKit Go.Maps
set_option linter.unusedSimpArgs false
set_option linter.unusedVariables false
set_option maxRecDepth 8000

theorem clr_at : ∀ (A : List Nat) (T : Nat → Gr) (k : Nat), clrL T A k = if k ∈ A then Gr.zero else T k
  | [], T, k => by simp [clrL]
  | i :: r, T, k => by
    rw [clrL, clr_at r]
    by_cases c : k ∈ r
    · rw [if_pos c, if_pos (List.mem_cons_of_mem _ c)]
    · rw [if_neg c]
      by_cases d : k = i
      · rw [d, put_same, if_pos (List.mem_cons_self ..)]
      · rw [put_other _ _ _ _ d, if_neg (by simp [c, d])]
theorem of_none (T : Nat → Gr) (p : Int) : ∀ m, (∀ k, k < m → ofP (T k) p = false) → ofL T p m = []
  | 0, _ => rfl
  | m + 1, h => by rw [of_no T p m (h m (by omega)), of_none T p m (fun k hk => h k (by omega))]
theorem of_clear (T : Nat → Gr) (p : Int) : ofL (clrL T (ofL T p 256)) p 256 = [] := by
  refine of_none _ _ 256 (fun k hk => ?_)
  rw [clr_at]
  by_cases c : k ∈ ofL T p 256
  · rw [if_pos c]; rfl
  · rw [if_neg c]
    by_cases d : ofP (T k) p = true
    · exact absurd ((mem_of T p k 256).2 ⟨hk, d⟩) c
    · simpa using d
theorem of_span (T : Nat → Gr) (p : Int) (a b : Nat) (hab : a ≤ b) : ∀ m, (∀ k, k < m → (ofP (T k) p = true ↔ a ≤ k ∧ k < b)) → (ofL T p m).length = min m b - min m a
  | 0, _ => by simp [ofL]
  | m + 1, h => by
    have ih := of_span T p a b hab m (fun k hk => h k (by omega))
    by_cases c : ofP (T m) p = true
    · rw [of_yes T p m c, List.length_append, ih]
      have := (h m (by omega)).1 c
      simp only [List.length_cons, List.length_nil]
      omega
    · rw [of_no T p m (by simpa using c), ih]
      have : ¬ (a ≤ m ∧ m < b) := fun q => c ((h m (by omega)).2 q)
      omega
/-- what p offers: so many pages -/
def manyT (p m : Nat) : Nat → Gr := fun k => if p * 16 ≤ k ∧ k < p * 16 + min m 16 then ⟨p, ((k - p * 16 : Nat) : Int), ((p + 1) % 16 : Nat), false, false, 0⟩ else Gr.zero
theorem many_zero (p : Nat) : manyT p 0 = zT := by
  funext k; unfold manyT zT; rw [if_neg (by omega)]
theorem many_is (p m k : Nat) (hp : p < 16) : (manyT p m k).is = true ↔ p * 16 ≤ k ∧ k < p * 16 + min m 16 := by
  unfold manyT
  by_cases c : p * 16 ≤ k ∧ k < p * 16 + min m 16
  · rw [if_pos c]
    refine ⟨fun _ => c, fun _ => ?_⟩
    unfold Gr.is
    simp
    omega
  · rw [if_neg c]
    refine ⟨fun h => absurd h (by decide), fun h => absurd h c⟩
theorem many_of (p m k : Nat) (hp : p < 16) : ofP (manyT p m k) p = true ↔ p * 16 ≤ k ∧ k < p * 16 + min m 16 := by
  unfold ofP
  rw [Bool.and_eq_true, many_is p m k hp]
  constructor
  · exact fun h => h.1
  · intro h
    refine ⟨h, ?_⟩
    unfold manyT
    rw [if_pos h]; simp
theorem many_len (p m : Nat) (hp : p < 16) : (ofL (manyT p m) p 256).length = min m 16 := by
  rw [of_span (manyT p m) p (p * 16) (p * 16 + min m 16) (by omega) 256 (fun k _ => many_of p m k hp)]
  omega
theorem many_args (p : Nat) (g : Int) (hp : p < 16) (h0 : 0 ≤ g) (h1 : g < 34359738368) : offB (p : Int) g (((p + 1) % 16 : Nat) : Int) = false := by
  unfold offB isProc isPage
  have e : ((p : Int) == (((p + 1) % 16 : Nat) : Int)) = false := by simp; omega
  rw [e]
  simp
  omega
theorem many_free (p m : Nat) (hp : p < 16) : freeF (manyT p m) (p * 16) 16 = p * 16 + min m 16 := by
  refine free_uniq _ _ _ _ (by omega) (by omega) (fun i h1 h2 => (many_is p m i hp).2 ⟨h1, h2⟩) (fun h => ?_)
  cases c : (manyT p m (p * 16 + min m 16)).is with
  | false => rfl
  | true => exact absurd ((many_is p m _ hp).1 c) (by omega)
theorem many_offer (p m : Nat) (hp : p < 16) (hm : m < 21) : offE (manyT p m) p m (((p + 1) % 16 : Nat) : Int) = (if m < 16 then 0 else 4) ∧ offI (manyT p m) p m (((p + 1) % 16 : Nat) : Int) = (if m < 16 then ((p * 16 + m : Nat) : Int) else 0) ∧ offT (manyT p m) p m (((p + 1) % 16 : Nat) : Int) false = manyT p (m + 1) := by
  have hB := many_args p m hp (by omega) (by omega)
  have hF := many_free p m hp
  have e1 : offE (manyT p m) p m (((p + 1) % 16 : Nat) : Int) = (if m < 16 then 0 else 4) := by
    unfold offE
    rw [hB, if_neg (by decide), Int.toNat_natCast, hF]
    by_cases c : m < 16
    · rw [if_pos c, if_pos (by omega)]
    · rw [if_neg c, if_neg (by omega)]
  refine ⟨e1, ?_, ?_⟩
  · unfold offI
    rw [e1, Int.toNat_natCast, hF]
    by_cases c : m < 16
    · rw [if_pos c, if_pos rfl, if_pos c, show min m 16 = m by omega]
    · rw [if_neg c, if_neg (by omega), if_neg c]
  · unfold offT
    rw [e1, Int.toNat_natCast, hF]
    by_cases c : m < 16
    · rw [if_pos c, if_pos rfl, show min m 16 = m by omega]
      funext k
      unfold putT manyT
      by_cases d : k = p * 16 + m
      · subst d
        rw [if_pos rfl, if_pos (by omega)]
        congr 1
        omega
      · rw [if_neg d]
        by_cases e : p * 16 ≤ k ∧ k < p * 16 + min m 16
        · rw [if_pos e, if_pos (by omega)]
        · rw [if_neg e, if_neg (by omega)]
    · rw [if_neg c, if_neg (by omega)]
      unfold manyT
      rw [show min m 16 = min (m + 1) 16 by omega]
/-- one is gone, and its number is used again -/
def backT (p m g : Nat) : Nat → Gr := putT (manyT p m) (p * 16 + g) ⟨p, 99, ((p + 1) % 16 : Nat), true, false, 0⟩
theorem many_get (p m g : Nat) (hp : p < 16) (hg : g < min m 16) : getG (manyT p m) ((p * 16 + g : Nat) : Int) = ⟨p, g, ((p + 1) % 16 : Nat), false, false, 0⟩ := by
  unfold getG manyT
  rw [if_pos (by omega), Int.toNat_natCast, if_pos (by omega), show p * 16 + g - p * 16 = g by omega]
theorem many_revoke (p m g : Nat) (hp : p < 16) (hg : g < min m 16) : revE (manyT p m) ((p * 16 + g : Nat) : Int) p = 0 ∧ revG (manyT p m) ((p * 16 + g : Nat) : Int) p = ⟨p, g, ((p + 1) % 16 : Nat), false, false, 0⟩ ∧ revT (manyT p m) ((p * 16 + g : Nat) : Int) p = putT (manyT p m) (p * 16 + g) Gr.zero := by
  have hq := many_get p m g hp hg
  have hi : (getG (manyT p m) ((p * 16 + g : Nat) : Int)).is = true := by rw [hq]; unfold Gr.is; simp; omega
  have hf : (getG (manyT p m) ((p * 16 + g : Nat) : Int)).fr = p := by rw [hq]
  obtain ⟨h1, h2, h3⟩ := rev0 hi hf
  exact ⟨h1, by rw [h2, hq], by rw [h3, Int.toNat_natCast]⟩
theorem many_again (p m g : Nat) (hp : p < 16) (hg : g < min m 16) : offE (putT (manyT p m) (p * 16 + g) Gr.zero) p 99 (((p + 1) % 16 : Nat) : Int) = 0 ∧ offI (putT (manyT p m) (p * 16 + g) Gr.zero) p 99 (((p + 1) % 16 : Nat) : Int) = ((p * 16 + g : Nat) : Int) ∧ offT (putT (manyT p m) (p * 16 + g) Gr.zero) p 99 (((p + 1) % 16 : Nat) : Int) true = backT p m g := by
  have hB := many_args p 99 hp (by omega) (by omega)
  have hF : freeF (putT (manyT p m) (p * 16 + g) Gr.zero) (p * 16) 16 = p * 16 + g := by
    refine free_uniq _ _ _ _ (by omega) (by omega) (fun i h1 h2 => ?_) (fun _ => by rw [put_same]; rfl)
    rw [put_other _ _ _ _ (by omega)]
    exact (many_is p m i hp).2 ⟨h1, by omega⟩
  have e1 : offE (putT (manyT p m) (p * 16 + g) Gr.zero) p 99 (((p + 1) % 16 : Nat) : Int) = 0 := by
    unfold offE
    rw [hB, if_neg (by decide), Int.toNat_natCast, hF, if_pos (by omega)]
  refine ⟨e1, ?_, ?_⟩
  · unfold offI
    rw [if_pos e1, Int.toNat_natCast, hF]
  · unfold offT
    rw [if_pos e1, Int.toNat_natCast, hF]
    unfold backT
    funext k
    unfold putT
    by_cases c : k = p * 16 + g <;> simp [c]
theorem back_len (p m g : Nat) (hp : p < 16) (hg : g < min m 16) : (ofL (backT p m g) p 256).length = min m 16 := by
  rw [of_span (backT p m g) p (p * 16) (p * 16 + min m 16) (by omega) 256 (fun k _ => ?_)]
  · omega
  · unfold backT
    by_cases c : k = p * 16 + g
    · rw [c, put_same]
      refine ⟨fun _ => by omega, fun _ => ?_⟩
      unfold ofP Gr.is
      simp
      omega
    · rw [put_other _ _ _ _ c]; exact many_of p m k hp
end Go.Proofs.Ytenfdcjnfgjilaa
