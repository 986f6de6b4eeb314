/- What words say, and how calls are spelled. -/
import Derived.Test.YtccbacjiiffheaaCK
namespace Go.Proofs.Ytccbacjiiffheaa
open Go.ChangeShapes Go.WideShapes Go.ChangeAt Go.RowKit Go.Maps
set_option linter.unusedSimpArgs false
set_option linter.unusedVariables false

/-- the words say this call -/
def Says (W : Wd) (c : Cl) : Prop := ∃ n, callV W = some (c, n) ∧ restZ W n
theorem Says.one {W : Wd} {c c' : Cl} (h : Says W c) (h' : Says W c') : c = c' := by
  obtain ⟨n, h1, _⟩ := h
  obtain ⟨n', h2, _⟩ := h'
  rw [h1] at h2
  exact (Prod.mk.inj (Option.some.inj h2)).1
def usedV (x : Int) : Int :=
  if x = 1 ∨ x = 3 ∨ x = 5 ∨ x = 6 then 3 else if x = 2 ∨ x = 4 ∨ x = 7 ∨ x = 16 then 2 else if x = 8 ∨ x = 9 ∨ x = 10 ∨ x = 12 then 1 else if x = 15 then 4 else if x = 11 ∨ x = 13 ∨ x = 14 then 0 else -1
def uw (x : Int) : Int := x % 18446744073709551616
def bitV (b : Bool) (n : Int) : Int := if b then n else 0
/-- how many pages, as a word -/
def manyV (c : Cl) : Int := uw (IntKind.i64.wrap (c.til - c.fr))
def spellW (c : Cl) : Wd :=
  if c.op = 1 ∨ c.op = 3 then ⟨uw c.op, uw c.fr, manyV c, bitV c.pw 1 + bitV c.px 2, 0, 0⟩ else
  if c.op = 2 then ⟨uw c.op, uw c.fr, manyV c, 0, 0, 0⟩ else
  if c.op = 4 then ⟨uw c.op, c.ad, uw c.sz, 0, 0, 0⟩ else
  if c.op = 5 then ⟨uw c.op, c.ad, uw c.sz, c.x, 0, 0⟩ else
  if c.op = 6 then ⟨uw c.op, uw c.fr, uw c.id, bitV c.pw 1, 0, 0⟩ else
  if c.op = 7 then ⟨uw c.op, uw c.id, uw c.fr, 0, 0, 0⟩ else
  if c.op = 8 ∨ c.op = 9 ∨ c.op = 12 then ⟨uw c.op, uw c.id, 0, 0, 0, 0⟩ else
  if c.op = 10 then ⟨uw c.op, c.ad, 0, 0, 0, 0⟩ else
  if c.op = 15 then ⟨uw c.op, uw (uw c.id - 1), uw c.a, uw c.b, uw c.d, 0⟩ else
  if c.op = 16 then ⟨uw c.op, uw c.id, c.x, 0, 0, 0⟩ else ⟨uw c.op, 0, 0, 0, 0, 0⟩
theorem uw_id {x : Int} (h0 : 0 ≤ x) (h1 : x < 18446744073709551616) : uw x = x := Int.emod_eq_of_lt h0 h1
theorem Wd.eta (W : Wd) : W = ⟨W.at 0, W.at 1, W.at 2, W.at 3, W.at 4, W.at 5⟩ := rfl
theorem perm_bits {x : Int} (h0 : 0 ≤ x) (h1 : x < 4) : bitV (permW x) 1 + bitV (permX x) 2 = x := by
  have : x = 0 ∨ x = 1 ∨ x = 2 ∨ x = 3 := by omega
  rcases this with rfl | rfl | rfl | rfl <;> rfl
theorem one_bit {x : Int} (h0 : 0 ≤ x) (h1 : x < 2) : bitV (x == 1) 1 = x := by
  have : x = 0 ∨ x = 1 := by omega
  rcases this with rfl | rfl <;> rfl
/-- which op, with what, and how many words -/
inductive Case (W : Wd) : Cl → Nat → Prop where
  | o1 (h0 : W.at 0 = 1) (h1 : pagesOk (W.at 1) (W.at 2)) (h2 : W.at 3 < 4) : Case W ⟨1, (W.at 1), (W.at 1 + W.at 2), (permW (W.at 3)), true, (permX (W.at 3)), 0, 0, 0, 0, 0, 0, 0⟩ 4
  | o2 (h0 : W.at 0 = 2) (h1 : pagesOk (W.at 1) (W.at 2)) : Case W ⟨2, (W.at 1), (W.at 1 + W.at 2), false, false, false, 0, 0, 0, 0, 0, 0, 0⟩ 3
  | o3 (h0 : W.at 0 = 3) (h1 : pagesOk (W.at 1) (W.at 2)) (h2 : W.at 3 < 4) : Case W ⟨3, (W.at 1), (W.at 1 + W.at 2), (permW (W.at 3)), true, (permX (W.at 3)), 0, 0, 0, 0, 0, 0, 0⟩ 4
  | o4 (h0 : W.at 0 = 4) (h1 : spotOk (W.at 1) (W.at 2)) : Case W ⟨4, 0, 0, false, false, false, (W.at 1), (W.at 2), 0, 0, 0, 0, 0⟩ 3
  | o6 (h0 : W.at 0 = 6) (h1 : W.at 1 < 34359738368) (h2 : W.at 2 < 16) (h3 : W.at 3 < 2) : Case W ⟨6, (W.at 1), (W.at 1 + 1), (W.at 3 == 1), false, false, 0, 0, 0, (W.at 2), 0, 0, 0⟩ 4
  | o7 (h0 : W.at 0 = 7) (h1 : W.at 1 < 256) (h2 : W.at 2 < 34359738368) : Case W ⟨7, (W.at 2), (W.at 2 + 1), false, false, false, 0, 0, 0, (W.at 1), 0, 0, 0⟩ 3
  | o8 (h0 : W.at 0 = 8) (h1 : W.at 1 < 256) : Case W ⟨8, 0, 0, false, false, false, 0, 0, 0, (W.at 1), 0, 0, 0⟩ 2
  | o9 (h0 : W.at 0 = 9) (h1 : W.at 1 < 256) : Case W ⟨9, 0, 0, false, false, false, 0, 0, 0, (W.at 1), 0, 0, 0⟩ 2
  | o10 (h0 : W.at 0 = 10) (h1 : W.at 1 < 140737488355328) : Case W ⟨10, 0, 0, false, false, false, (W.at 1), 0, 0, 0, 0, 0, 0⟩ 2
  | o11 (h0 : W.at 0 = 11)  : Case W ⟨11, 0, 0, false, false, false, 0, 0, 0, 0, 0, 0, 0⟩ 1
  | o12 (h0 : W.at 0 = 12) (h1 : W.at 1 < 1048577) : Case W ⟨12, 0, 0, false, false, false, 0, 0, 0, (W.at 1), 0, 0, 0⟩ 2
  | o13 (h0 : W.at 0 = 13)  : Case W ⟨13, 0, 0, false, false, false, 0, 0, 0, 0, 0, 0, 0⟩ 1
  | o14 (h0 : W.at 0 = 14)  : Case W ⟨14, 0, 0, false, false, false, 0, 0, 0, 0, 0, 0, 0⟩ 1
  | o15 (h0 : W.at 0 = 15) (h1 : W.at 1 < 8) (h2 : W.at 2 < 4) (h3 : W.at 3 < 4) (h4 : W.at 4 < 4) : Case W ⟨15, 0, 0, false, false, false, 0, 0, 0, (W.at 1 + 1), (W.at 2), (W.at 3), (W.at 4)⟩ 5
  | o16 (h0 : W.at 0 = 16) (h1 : W.at 1 < 4) : Case W ⟨16, 0, 0, false, false, false, 0, 0, (W.at 2), (W.at 1), 0, 0, 0⟩ 3
  | o5 (h0 : W.at 0 = 5) (h1 : spotOk (W.at 1) (W.at 2)) (h2 : (W.at 2 = 1 ∧ W.at 3 < 256) ∨ (W.at 2 = 2 ∧ W.at 3 < 65536) ∨ (W.at 2 = 4 ∧ W.at 3 < 4294967296) ∨ (W.at 2 = 8 ∧ W.at 3 < 18446744073709551616)) : Case W ⟨5, 0, 0, false, false, false, W.at 1, W.at 2, W.at 3, 0, 0, 0, 0⟩ 4
theorem case_of {W : Wd} {c : Cl} {n : Nat} (hc : callV W = some (c, n)) : Case W c n := by
  unfold callV at hc
  by_cases z1 : W.at 0 = 1
  · rw [if_pos z1] at hc
    by_cases hq : pagesOk (W.at 1) (W.at 2) ∧ W.at 3 < 4
    · rw [if_pos hq] at hc
      obtain ⟨rfl, rfl⟩ := Prod.mk.inj (Option.some.inj hc)
      exact .o1 z1 hq.1 hq.2
    · rw [if_neg hq] at hc; cases hc
  rw [if_neg z1] at hc
  by_cases z2 : W.at 0 = 2
  · rw [if_pos z2] at hc
    by_cases hq : pagesOk (W.at 1) (W.at 2)
    · rw [if_pos hq] at hc
      obtain ⟨rfl, rfl⟩ := Prod.mk.inj (Option.some.inj hc)
      exact .o2 z2 hq
    · rw [if_neg hq] at hc; cases hc
  rw [if_neg z2] at hc
  by_cases z3 : W.at 0 = 3
  · rw [if_pos z3] at hc
    by_cases hq : pagesOk (W.at 1) (W.at 2) ∧ W.at 3 < 4
    · rw [if_pos hq] at hc
      obtain ⟨rfl, rfl⟩ := Prod.mk.inj (Option.some.inj hc)
      exact .o3 z3 hq.1 hq.2
    · rw [if_neg hq] at hc; cases hc
  rw [if_neg z3] at hc
  by_cases z4 : W.at 0 = 4
  · rw [if_pos z4] at hc
    by_cases hq : spotOk (W.at 1) (W.at 2)
    · rw [if_pos hq] at hc
      obtain ⟨rfl, rfl⟩ := Prod.mk.inj (Option.some.inj hc)
      exact .o4 z4 hq
    · rw [if_neg hq] at hc; cases hc
  rw [if_neg z4] at hc
  by_cases z6 : W.at 0 = 6
  · rw [if_pos z6] at hc
    by_cases hq : W.at 1 < 34359738368 ∧ W.at 2 < 16 ∧ W.at 3 < 2
    · rw [if_pos hq] at hc
      obtain ⟨rfl, rfl⟩ := Prod.mk.inj (Option.some.inj hc)
      exact .o6 z6 hq.1 hq.2.1 hq.2.2
    · rw [if_neg hq] at hc; cases hc
  rw [if_neg z6] at hc
  by_cases z7 : W.at 0 = 7
  · rw [if_pos z7] at hc
    by_cases hq : W.at 1 < 256 ∧ W.at 2 < 34359738368
    · rw [if_pos hq] at hc
      obtain ⟨rfl, rfl⟩ := Prod.mk.inj (Option.some.inj hc)
      exact .o7 z7 hq.1 hq.2
    · rw [if_neg hq] at hc; cases hc
  rw [if_neg z7] at hc
  by_cases z8 : W.at 0 = 8
  · rw [if_pos z8] at hc
    by_cases hq : W.at 1 < 256
    · rw [if_pos hq] at hc
      obtain ⟨rfl, rfl⟩ := Prod.mk.inj (Option.some.inj hc)
      exact .o8 z8 hq
    · rw [if_neg hq] at hc; cases hc
  rw [if_neg z8] at hc
  by_cases z9 : W.at 0 = 9
  · rw [if_pos z9] at hc
    by_cases hq : W.at 1 < 256
    · rw [if_pos hq] at hc
      obtain ⟨rfl, rfl⟩ := Prod.mk.inj (Option.some.inj hc)
      exact .o9 z9 hq
    · rw [if_neg hq] at hc; cases hc
  rw [if_neg z9] at hc
  by_cases z10 : W.at 0 = 10
  · rw [if_pos z10] at hc
    by_cases hq : W.at 1 < 140737488355328
    · rw [if_pos hq] at hc
      obtain ⟨rfl, rfl⟩ := Prod.mk.inj (Option.some.inj hc)
      exact .o10 z10 hq
    · rw [if_neg hq] at hc; cases hc
  rw [if_neg z10] at hc
  by_cases z11 : W.at 0 = 11
  · rw [if_pos z11] at hc
    obtain ⟨rfl, rfl⟩ := Prod.mk.inj (Option.some.inj hc)
    exact .o11 z11
  rw [if_neg z11] at hc
  by_cases z12 : W.at 0 = 12
  · rw [if_pos z12] at hc
    by_cases hq : W.at 1 < 1048577
    · rw [if_pos hq] at hc
      obtain ⟨rfl, rfl⟩ := Prod.mk.inj (Option.some.inj hc)
      exact .o12 z12 hq
    · rw [if_neg hq] at hc; cases hc
  rw [if_neg z12] at hc
  by_cases z13 : W.at 0 = 13
  · rw [if_pos z13] at hc
    obtain ⟨rfl, rfl⟩ := Prod.mk.inj (Option.some.inj hc)
    exact .o13 z13
  rw [if_neg z13] at hc
  by_cases z14 : W.at 0 = 14
  · rw [if_pos z14] at hc
    obtain ⟨rfl, rfl⟩ := Prod.mk.inj (Option.some.inj hc)
    exact .o14 z14
  rw [if_neg z14] at hc
  by_cases z15 : W.at 0 = 15
  · rw [if_pos z15] at hc
    by_cases hq : W.at 1 < 8 ∧ W.at 2 < 4 ∧ W.at 3 < 4 ∧ W.at 4 < 4
    · rw [if_pos hq] at hc
      obtain ⟨rfl, rfl⟩ := Prod.mk.inj (Option.some.inj hc)
      exact .o15 z15 hq.1 hq.2.1 hq.2.2.1 hq.2.2.2
    · rw [if_neg hq] at hc; cases hc
  rw [if_neg z15] at hc
  by_cases z16 : W.at 0 = 16
  · rw [if_pos z16] at hc
    by_cases hq : W.at 1 < 4
    · rw [if_pos hq] at hc
      obtain ⟨rfl, rfl⟩ := Prod.mk.inj (Option.some.inj hc)
      exact .o16 z16 hq
    · rw [if_neg hq] at hc; cases hc
  rw [if_neg z16] at hc
  by_cases z5 : W.at 0 = 5
  · rw [if_pos z5] at hc
    by_cases hq : spotOk (W.at 1) (W.at 2)
    · rw [if_pos hq] at hc
      by_cases hr : (W.at 2 = 1 ∧ W.at 3 < 256) ∨ (W.at 2 = 2 ∧ W.at 3 < 65536) ∨ (W.at 2 = 4 ∧ W.at 3 < 4294967296) ∨ (W.at 2 = 8 ∧ W.at 3 < 18446744073709551616)
      · rw [if_pos hr] at hc
        obtain ⟨rfl, rfl⟩ := Prod.mk.inj (Option.some.inj hc)
        exact .o5 z5 hq hr
      · rw [if_neg hr] at hc; cases hc
    · rw [if_neg hq] at hc; cases hc
  rw [if_neg z5] at hc
  cases hc
theorem case_used {W : Wd} {c : Cl} {n : Nat} (h : Case W c n) : (n : Int) = usedV (W.at 0) + 1 ∧ n < 6 ∧ c.op = W.at 0 := by
  cases h <;> simp [usedV, *]
theorem case_spell {W : Wd} {c : Cl} {n : Nat} (hw : W.wf) (h : Case W c n) (hz : restZ W n) : spellW c = W := by
  have b0 := hw 0; have b1 := hw 1; have b2 := hw 2; have b3 := hw 3; have b4 := hw 4; have b5 := hw 5
  have z : ∀ i, n ≤ i → i < 6 → W.at i = 0 := hz
  have u : ∀ x : Int, 0 ≤ x → x < 18446744073709551616 → uw x = x := fun x h0 h1 => uw_id h0 h1
  have mw : ∀ a b : Int, 0 ≤ b → b < 65537 → uw (IntKind.i64.wrap (a + b - a)) = b := fun a b h0 h1 => by
    rw [show a + b - a = b by omega, IntKind.wrap_i64, show (b + 9223372036854775808) % 18446744073709551616 - 9223372036854775808 = b by omega]; exact u b h0 (by omega)
  have fin : ∀ a0 a1 a2 a3 a4 a5 : Int, a0 = W.at 0 → a1 = W.at 1 → a2 = W.at 2 → a3 = W.at 3 → a4 = W.at 4 → a5 = W.at 5 → (⟨a0, a1, a2, a3, a4, a5⟩ : Wd) = W := fun a0 a1 a2 a3 a4 a5 e0 e1 e2 e3 e4 e5 => by
    rw [e0, e1, e2, e3, e4, e5]; rfl
  cases h with
  | o1 h0 h1 h2 =>
    show (_ : Wd) = W
    simp only [spellW, manyV, reduceIte, Int.reduceEq, or_true, true_or, or_false, false_or, or_self, if_true, if_false]
    exact fin _ _ _ _ _ _ (((u 1 (by omega) (by omega)).trans h0.symm)) (u _ (by omega) (by omega)) (mw _ _ (by omega) (by have := h1.2.1; omega)) (perm_bits (by omega) h2) ((z 4 (by omega) (by omega)).symm) ((z 5 (by omega) (by omega)).symm)
  | o2 h0 h1 =>
    show (_ : Wd) = W
    simp only [spellW, manyV, reduceIte, Int.reduceEq, or_true, true_or, or_false, false_or, or_self, if_true, if_false]
    exact fin _ _ _ _ _ _ (((u 2 (by omega) (by omega)).trans h0.symm)) (u _ (by omega) (by omega)) (mw _ _ (by omega) (by have := h1.2.1; omega)) ((z 3 (by omega) (by omega)).symm) ((z 4 (by omega) (by omega)).symm) ((z 5 (by omega) (by omega)).symm)
  | o3 h0 h1 h2 =>
    show (_ : Wd) = W
    simp only [spellW, manyV, reduceIte, Int.reduceEq, or_true, true_or, or_false, false_or, or_self, if_true, if_false]
    exact fin _ _ _ _ _ _ (((u 3 (by omega) (by omega)).trans h0.symm)) (u _ (by omega) (by omega)) (mw _ _ (by omega) (by have := h1.2.1; omega)) (perm_bits (by omega) h2) ((z 4 (by omega) (by omega)).symm) ((z 5 (by omega) (by omega)).symm)
  | o4 h0 h1 =>
    show (_ : Wd) = W
    simp only [spellW, manyV, reduceIte, Int.reduceEq, or_true, true_or, or_false, false_or, or_self, if_true, if_false]
    exact fin _ _ _ _ _ _ (((u 4 (by omega) (by omega)).trans h0.symm)) (rfl) (u _ (by omega) (by omega)) ((z 3 (by omega) (by omega)).symm) ((z 4 (by omega) (by omega)).symm) ((z 5 (by omega) (by omega)).symm)
  | o6 h0 h1 h2 h3 =>
    show (_ : Wd) = W
    simp only [spellW, manyV, reduceIte, Int.reduceEq, or_true, true_or, or_false, false_or, or_self, if_true, if_false]
    exact fin _ _ _ _ _ _ (((u 6 (by omega) (by omega)).trans h0.symm)) (u _ (by omega) (by omega)) (u _ (by omega) (by omega)) (one_bit (by omega) h3) ((z 4 (by omega) (by omega)).symm) ((z 5 (by omega) (by omega)).symm)
  | o7 h0 h1 h2 =>
    show (_ : Wd) = W
    simp only [spellW, manyV, reduceIte, Int.reduceEq, or_true, true_or, or_false, false_or, or_self, if_true, if_false]
    exact fin _ _ _ _ _ _ (((u 7 (by omega) (by omega)).trans h0.symm)) (u _ (by omega) (by omega)) (u _ (by omega) (by omega)) ((z 3 (by omega) (by omega)).symm) ((z 4 (by omega) (by omega)).symm) ((z 5 (by omega) (by omega)).symm)
  | o8 h0 h1 =>
    show (_ : Wd) = W
    simp only [spellW, manyV, reduceIte, Int.reduceEq, or_true, true_or, or_false, false_or, or_self, if_true, if_false]
    exact fin _ _ _ _ _ _ (((u 8 (by omega) (by omega)).trans h0.symm)) (u _ (by omega) (by omega)) ((z 2 (by omega) (by omega)).symm) ((z 3 (by omega) (by omega)).symm) ((z 4 (by omega) (by omega)).symm) ((z 5 (by omega) (by omega)).symm)
  | o9 h0 h1 =>
    show (_ : Wd) = W
    simp only [spellW, manyV, reduceIte, Int.reduceEq, or_true, true_or, or_false, false_or, or_self, if_true, if_false]
    exact fin _ _ _ _ _ _ (((u 9 (by omega) (by omega)).trans h0.symm)) (u _ (by omega) (by omega)) ((z 2 (by omega) (by omega)).symm) ((z 3 (by omega) (by omega)).symm) ((z 4 (by omega) (by omega)).symm) ((z 5 (by omega) (by omega)).symm)
  | o10 h0 h1 =>
    show (_ : Wd) = W
    simp only [spellW, manyV, reduceIte, Int.reduceEq, or_true, true_or, or_false, false_or, or_self, if_true, if_false]
    exact fin _ _ _ _ _ _ (((u 10 (by omega) (by omega)).trans h0.symm)) (rfl) ((z 2 (by omega) (by omega)).symm) ((z 3 (by omega) (by omega)).symm) ((z 4 (by omega) (by omega)).symm) ((z 5 (by omega) (by omega)).symm)
  | o11 h0  =>
    show (_ : Wd) = W
    simp only [spellW, manyV, reduceIte, Int.reduceEq, or_true, true_or, or_false, false_or, or_self, if_true, if_false]
    exact fin _ _ _ _ _ _ (((u 11 (by omega) (by omega)).trans h0.symm)) ((z 1 (by omega) (by omega)).symm) ((z 2 (by omega) (by omega)).symm) ((z 3 (by omega) (by omega)).symm) ((z 4 (by omega) (by omega)).symm) ((z 5 (by omega) (by omega)).symm)
  | o12 h0 h1 =>
    show (_ : Wd) = W
    simp only [spellW, manyV, reduceIte, Int.reduceEq, or_true, true_or, or_false, false_or, or_self, if_true, if_false]
    exact fin _ _ _ _ _ _ (((u 12 (by omega) (by omega)).trans h0.symm)) (u _ (by omega) (by omega)) ((z 2 (by omega) (by omega)).symm) ((z 3 (by omega) (by omega)).symm) ((z 4 (by omega) (by omega)).symm) ((z 5 (by omega) (by omega)).symm)
  | o13 h0  =>
    show (_ : Wd) = W
    simp only [spellW, manyV, reduceIte, Int.reduceEq, or_true, true_or, or_false, false_or, or_self, if_true, if_false]
    exact fin _ _ _ _ _ _ (((u 13 (by omega) (by omega)).trans h0.symm)) ((z 1 (by omega) (by omega)).symm) ((z 2 (by omega) (by omega)).symm) ((z 3 (by omega) (by omega)).symm) ((z 4 (by omega) (by omega)).symm) ((z 5 (by omega) (by omega)).symm)
  | o14 h0  =>
    show (_ : Wd) = W
    simp only [spellW, manyV, reduceIte, Int.reduceEq, or_true, true_or, or_false, false_or, or_self, if_true, if_false]
    exact fin _ _ _ _ _ _ (((u 14 (by omega) (by omega)).trans h0.symm)) ((z 1 (by omega) (by omega)).symm) ((z 2 (by omega) (by omega)).symm) ((z 3 (by omega) (by omega)).symm) ((z 4 (by omega) (by omega)).symm) ((z 5 (by omega) (by omega)).symm)
  | o15 h0 h1 h2 h3 h4 =>
    show (_ : Wd) = W
    simp only [spellW, manyV, reduceIte, Int.reduceEq, or_true, true_or, or_false, false_or, or_self, if_true, if_false]
    exact fin _ _ _ _ _ _ (((u 15 (by omega) (by omega)).trans h0.symm)) ((by rw [u (W.at 1 + 1) (by omega) (by omega), show W.at 1 + 1 - 1 = W.at 1 by omega]; exact u _ (by omega) (by omega))) (u _ (by omega) (by omega)) (u _ (by omega) (by omega)) (u _ (by omega) (by omega)) ((z 5 (by omega) (by omega)).symm)
  | o16 h0 h1 =>
    show (_ : Wd) = W
    simp only [spellW, manyV, reduceIte, Int.reduceEq, or_true, true_or, or_false, false_or, or_self, if_true, if_false]
    exact fin _ _ _ _ _ _ (((u 16 (by omega) (by omega)).trans h0.symm)) (u _ (by omega) (by omega)) (rfl) ((z 3 (by omega) (by omega)).symm) ((z 4 (by omega) (by omega)).symm) ((z 5 (by omega) (by omega)).symm)
  | o5 h0 h1 h2 =>
    show (_ : Wd) = W
    simp only [spellW, manyV, reduceIte, Int.reduceEq, or_true, true_or, or_false, false_or, or_self, if_true, if_false]
    exact fin _ _ _ _ _ _ (((u 5 (by omega) (by omega)).trans h0.symm)) (rfl) (u _ (by omega) (by omega)) (rfl) ((z 4 (by omega) (by omega)).symm) ((z 5 (by omega) (by omega)).symm)
theorem says_spell {W : Wd} {c : Cl} (hw : W.wf) (h : Says W c) : spellW c = W := by
  obtain ⟨n, h1, h2⟩ := h
  exact case_spell hw (case_of h1) h2
theorem says_inj {W W' : Wd} {c : Cl} (hw : W.wf) (hw' : W'.wf) (h : Says W c) (h' : Says W' c) : W = W' := (says_spell hw h).symm.trans (says_spell hw' h')
theorem says_used {W : Wd} {c : Cl} (h : Says W c) : 0 ≤ usedV (W.at 0) ∧ c.op = W.at 0 ∧ ∀ i : Nat, usedV (W.at 0) < i → i < 6 → W.at i = 0 := by
  obtain ⟨n, h1, h2⟩ := h
  obtain ⟨e1, e2, e3⟩ := case_used (case_of h1)
  have : 1 ≤ n := by cases case_of h1 <;> omega
  exact ⟨by omega, e3, fun i hi h6 => h2 i (by omega) h6⟩
end Go.Proofs.Ytccbacjiiffheaa
