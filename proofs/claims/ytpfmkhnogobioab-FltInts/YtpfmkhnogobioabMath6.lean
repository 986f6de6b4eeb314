/- Plain facts on numbers' bits: whole numbers by the fields. -/
import Derived.Test.YtpfmkhnogobioabMath5
namespace FltM
open Ieee
set_option linter.unusedVariables false

theorem val_big {r : Nat} (h : 4503599627370496 ≤ r) : val r = (4503599627370496 + r % 4503599627370496) * 2 ^ (r / 4503599627370496 - 1) := by
  unfold val mant shf; rw [if_neg (by omega), if_neg (by omega)]
theorem tmag_hi {r : Nat} (h : 1075 ≤ r / 4503599627370496) : tmag r = (4503599627370496 + r % 4503599627370496) * 2 ^ (r / 4503599627370496 - 1075) := by
  have he := E74_eq
  unfold tmag; rw [val_big (by omega)]
  rw [show r / 4503599627370496 - 1 = (r / 4503599627370496 - 1075) + E74 by omega, Nat.pow_add, ← Nat.mul_assoc, Nat.mul_div_cancel _ pE]
theorem tmag_lo {r : Nat} (h1 : 1023 ≤ r / 4503599627370496) (h2 : r / 4503599627370496 < 1075) : tmag r = (4503599627370496 + r % 4503599627370496) / 2 ^ (1075 - r / 4503599627370496) := by
  have he := E74_eq
  unfold tmag; rw [val_big (by omega)]
  have e : (2 : Nat) ^ E74 = 2 ^ (1075 - r / 4503599627370496) * 2 ^ (r / 4503599627370496 - 1) := by
    rw [← Nat.pow_add, show 1075 - r / 4503599627370496 + (r / 4503599627370496 - 1) = E74 by omega]
  rw [e, Nat.mul_div_mul_right _ _ (Nat.two_pow_pos _)]
theorem tmag_no {r : Nat} (h : r / 4503599627370496 < 1023) : tmag r = 0 := by
  unfold tmag
  apply Nat.div_eq_of_lt
  rw [← val_one]; exact val_mono (by omega)
theorem tmag_ge {r : Nat} (h : 4890909195324358656 ≤ r) : 9223372036854775808 ≤ tmag r := by
  unfold tmag
  rw [Nat.le_div_iff_mul_le pE, ← val_63]
  rcases Nat.lt_or_ge 4890909195324358656 r with d | d
  · exact Nat.le_of_lt (val_mono d)
  · rw [show r = 4890909195324358656 by omega]; exact Nat.le_refl _
theorem tmag_gt {r : Nat} (h : 4890909195324358656 < r) (hr : r < 9218868437227405312) : 9223372036854775808 < tmag r := by
  obtain ⟨t, h1, h2⟩ := trunc_rung r
  rcases Nat.lt_or_ge 9223372036854775808 (tmag r) with c | c
  · exact c
  · exfalso
    have hE : 1075 ≤ r / 4503599627370496 := by omega
    have := tmag_hi hE
    have h3 : 2 ^ 11 ≤ 2 ^ (r / 4503599627370496 - 1075) := Nat.pow_le_pow_right (by omega) (by omega)
    have h4 : (4503599627370496 + r % 4503599627370496) * 2 ^ 11 ≤ (4503599627370496 + r % 4503599627370496) * 2 ^ (r / 4503599627370496 - 1075) := Nat.mul_le_mul_left _ h3
    rw [← this] at h4
    rw [show (2 : Nat) ^ 11 = 2048 from rfl] at h4
    have h5 : r % 4503599627370496 = 0 := by omega
    have h6 : 1086 < r / 4503599627370496 := by omega
    have h7 : 2 ^ 12 ≤ 2 ^ (r / 4503599627370496 - 1075) := Nat.pow_le_pow_right (by omega) (by omega)
    have h8 : (4503599627370496 + r % 4503599627370496) * 2 ^ 12 ≤ (4503599627370496 + r % 4503599627370496) * 2 ^ (r / 4503599627370496 - 1075) := Nat.mul_le_mul_left _ h7
    rw [← this, show (2 : Nat) ^ 12 = 4096 from rfl] at h8
    omega

theorem toI_ok {x : Nat} (h : rg x < 9218868437227405312) (h1 : -9223372036854775808 ≤ sz (sg x) (tmag (rg x))) (h2 : sz (sg x) (tmag (rg x)) < 9223372036854775808) : toI x = sz (sg x) (tmag (rg x)) ∧ toE x = 0 := by
  unfold toI toE; rw [if_pos ⟨h, h1, h2⟩, if_pos ⟨h, h1, h2⟩]; exact ⟨rfl, rfl⟩
theorem toI_no {x : Nat} (h : ¬ (rg x < 9218868437227405312 ∧ -9223372036854775808 ≤ sz (sg x) (tmag (rg x)) ∧ sz (sg x) (tmag (rg x)) < 9223372036854775808)) : toI x = 0 ∧ toE x = 1 := by
  unfold toI toE; rw [if_neg h, if_neg h]; exact ⟨rfl, rfl⟩
theorem sz_pos (n : Nat) : sz false n = n := rfl
theorem sz_min (n : Nat) : sz true n = -n := rfl
theorem sg_yes {x : Int} (h0 : 0 ≤ x) (h1 : x < 18446744073709551616) (h : x / 9223372036854775808 = 1) : sg x.toNat = true := by unfold sg; rw [beq_iff_eq]; omega
theorem sg_not {x : Int} (h0 : 0 ≤ x) (h1 : x < 18446744073709551616) (h : ¬ x / 9223372036854775808 = 1) : sg x.toNat = false := by unfold sg; rw [beq_eq_false_iff_ne]; omega
theorem small_shift {m k : Nat} (hm : m < 9007199254740992) (hk : k ≤ 10) : m * 2 ^ k < 9223372036854775808 := by
  have h1 : 2 ^ k ≤ 2 ^ 10 := Nat.pow_le_pow_right (by omega) hk
  have h2 : m * 2 ^ k ≤ m * 2 ^ 10 := Nat.mul_le_mul_left _ h1
  rw [show (2 : Nat) ^ 10 = 1024 from rfl] at h2
  omega

/-- a whole number as a number, by its size's first bits -/
theorem fromI_bits {n : Int} {m L : Nat} (hm : n.natAbs = m) (h0 : m ≠ 0) (hL : m.log2 = L) (h63 : L ≤ 63) :
    fromI n = double.word (decide (n < 0)) ((1022 + L) * 4503599627370496 + rne (m * 2 ^ (63 - L)) 2048) := by
  unfold fromI
  rw [hm, nearest_eq _ _ h0]
  have hl : lastOf m 0 = (L : Int) - 52 := by unfold lastOf; rw [hL]; omega
  have hlt : m < 2 ^ (L + 1) := by rw [← hL]; exact Nat.lt_log2_self
  rw [hl]
  have e1 : ((L : Int) - 52 + 1074).toNat = 1022 + L := by omega
  have e2 : rne (m * 2 ^ (0 - ((L : Int) - 52)).toNat) (2 ^ ((L : Int) - 52 - 0).toNat) = rne (m * 2 ^ (63 - L)) 2048 := by
    by_cases c : L ≤ 52
    · rw [show (0 - ((L : Int) - 52)).toNat = 52 - L by omega, show ((L : Int) - 52 - 0).toNat = 0 by omega]
      rw [show 63 - L = 52 - L + 11 by omega, Nat.pow_add, ← Nat.mul_assoc]
      have := rne_mul (m * 2 ^ (52 - L)) 1 (2 ^ 11) (by decide)
      rw [Nat.one_mul] at this
      exact this.symm
    · rw [show (0 - ((L : Int) - 52)).toNat = 0 by omega, show ((L : Int) - 52 - 0).toNat = L - 52 by omega, Nat.pow_zero, Nat.mul_one]
      have := rne_mul m (2 ^ (L - 52)) (2 ^ (63 - L)) (Nat.two_pow_pos _)
      rw [← Nat.pow_add, show L - 52 + (63 - L) = 11 by omega] at this
      exact this.symm
  rw [e1, e2]
  have hr : m * 2 ^ (63 - L) < 2 ^ 64 := by
    have : m * 2 ^ (63 - L) < 2 ^ (L + 1) * 2 ^ (63 - L) := Nat.mul_lt_mul_of_pos_right hlt (Nat.two_pow_pos _)
    rw [← Nat.pow_add, show L + 1 + (63 - L) = 64 by omega] at this
    exact this
  rw [show (2 : Nat) ^ 64 = 18446744073709551616 from rfl] at hr
  generalize m * 2 ^ (63 - L) = q at *
  have hb : rne q 2048 ≤ q / 2048 + 1 := by
    unfold rne
    have : ∀ b : Bool, b.toNat ≤ 1 := by intro b; cases b <;> decide
    have := this (decide (2048 < 2 * (q % 2048)) || (2048 == 2 * (q % 2048) && q / 2048 % 2 == 1))
    omega
  rw [Nat.min_eq_left (by omega)]
theorem rne_up {q : Nat} (h : 1024 < q % 2048 ∨ q % 2048 = 1024 ∧ q / 2048 % 2 = 1) : rne q 2048 = q / 2048 + 1 := by
  unfold rne
  have : (decide (2048 < 2 * (q % 2048)) || (2048 == 2 * (q % 2048) && q / 2048 % 2 == 1)) = true := by
    rcases h with h | ⟨h1, h2⟩
    · rw [decide_eq_true (by omega), Bool.true_or]
    · rw [h1, h2]; decide
  rw [this]; rfl
theorem rne_down {q : Nat} (h : ¬ (1024 < q % 2048 ∨ q % 2048 = 1024 ∧ q / 2048 % 2 = 1)) : rne q 2048 = q / 2048 := by
  unfold rne
  have : (decide (2048 < 2 * (q % 2048)) || (2048 == 2 * (q % 2048) && q / 2048 % 2 == 1)) = false := by
    rw [decide_eq_false (by omega), Bool.false_or]
    by_cases c : q % 2048 = 1024
    · have : (q / 2048 % 2 == 1) = false := by rw [beq_eq_false_iff_ne]; omega
      rw [this, Bool.and_false]
    · have : (2048 == 2 * (q % 2048)) = false := by rw [beq_eq_false_iff_ne]; omega
      rw [this, Bool.false_and]
  rw [this]; rfl
end FltM
