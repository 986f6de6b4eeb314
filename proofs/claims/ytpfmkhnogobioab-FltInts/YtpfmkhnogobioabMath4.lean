/- Plain facts on numbers' bits: a number brought towards nought to a whole one, and whole ones as numbers. -/
import Derived.Test.YtpfmkhnogobioabMath3
namespace FltM
open Ieee
set_option linter.unusedVariables false

def E74 : Nat := 1074
theorem E74_eq : E74 = 1074 := rfl
/-- the size of a number without its part behind the point -/
def tmag (r : Nat) : Nat := val r / 2 ^ E74
theorem pE : 0 < 2 ^ E74 := Nat.two_pow_pos _

theorem integral_num (s : Bool) (r : Nat) : (Datum.number s (mant r) (-1074 + (shf r : Int))).integral .zero = .number s (tmag r) 0 := by
  have he := E74_eq
  simp only [Datum.integral, cut_zero, Nat.shiftLeft_eq]
  congr 1
  unfold tmag val
  by_cases c : E74 ≤ shf r
  · rw [show (-(-1074 + (shf r : Int))).toNat = 0 by omega, Nat.pow_zero, Nat.div_one]
    have hk : (-1074 + (shf r : Int)).toNat + E74 = shf r := by omega
    have e : mant r * 2 ^ shf r = mant r * 2 ^ (-1074 + (shf r : Int)).toNat * 2 ^ E74 := by rw [Nat.mul_assoc, ← Nat.pow_add, hk]
    rw [e, Nat.mul_div_cancel _ pE]
  · rw [show (-1074 + (shf r : Int)).toNat = 0 by omega, Nat.pow_zero, Nat.mul_one]
    have e1 : (-(-1074 + (shf r : Int))).toNat = E74 - shf r := by omega
    rw [e1]
    have e2 : (2 : Nat) ^ E74 = 2 ^ (E74 - shf r) * 2 ^ shf r := by rw [← Nat.pow_add, show E74 - shf r + shf r = E74 by omega]
    rw [e2, Nat.mul_div_mul_right _ _ (Nat.two_pow_pos _)]

theorem val_le {r t : Nat} (h : val t ≤ val r) : t ≤ r := by
  rcases Nat.lt_or_ge r t with c | c
  · have := val_mono c; omega
  · exact c

theorem trunc_rung (r : Nat) : ∃ t, t ≤ r ∧ val t = tmag r * 2 ^ E74 := by
  by_cases c : E74 ≤ shf r
  · refine ⟨r, Nat.le_refl _, ?_⟩
    unfold tmag
    have e : val r = mant r * 2 ^ (shf r - E74) * 2 ^ E74 := by
      have hk : shf r - E74 + E74 = shf r := by omega
      unfold val; rw [Nat.mul_assoc, ← Nat.pow_add, hk]
    rw [e, Nat.mul_div_cancel _ pE]
  · have hm : tmag r < 9007199254740992 := by
      unfold tmag val
      have e2 : (2 : Nat) ^ E74 = 2 ^ (E74 - shf r) * 2 ^ shf r := by rw [← Nat.pow_add, show E74 - shf r + shf r = E74 by omega]
      rw [e2, Nat.mul_div_mul_right _ _ (Nat.two_pow_pos _)]
      exact Nat.lt_of_le_of_lt (Nat.div_le_self _ _) (mant_lt r)
    obtain ⟨t, ht⟩ := exists_rung E74 (tmag r) hm
    refine ⟨t, val_le ?_, ht⟩
    rw [ht]; unfold tmag; exact Nat.div_mul_le_self _ _

theorem trunc_write (s : Bool) {r : Nat} (h : r < 9218868437227405312) : ∃ t, t ≤ r ∧ val t = tmag r * 2 ^ E74 ∧ double.write (.number s (tmag r) 0) = double.word s t := by
  obtain ⟨t, h1, h2⟩ := trunc_rung r
  refine ⟨t, h1, h2, ?_⟩
  simp only [Format.write]
  have := nearest_exact s (tmag r) E74 t h2.symm (by omega)
  rw [show (-1074 + (E74 : Int)) = 0 by rw [E74_eq]; rfl] at this
  exact this

theorem val_63 : val 4890909195324358656 = 9223372036854775808 * 2 ^ E74 := by
  have e : val 4890909195324358656 = mant 4890909195324358656 * 2 ^ shf 4890909195324358656 := rfl
  rw [e, show mant 4890909195324358656 = 4503599627370496 by decide, show shf 4890909195324358656 = 11 + E74 by decide, Nat.pow_add, ← Nat.mul_assoc]
theorem lt_63 {t T : Nat} (h : val t = T * 2 ^ E74) : t < 4890909195324358656 ↔ T < 9223372036854775808 := by
  constructor
  · intro k
    have := val_mono k
    rw [h, val_63] at this
    exact Nat.lt_of_mul_lt_mul_right this
  · intro k
    rcases Nat.lt_or_ge t 4890909195324358656 with c | c
    · exact c
    · exfalso
      have h1 : val 4890909195324358656 ≤ val t := by
        rcases Nat.lt_or_ge 4890909195324358656 t with d | d
        · exact Nat.le_of_lt (val_mono d)
        · rw [show t = 4890909195324358656 by omega]; exact Nat.le_refl _
      rw [h, val_63] at h1
      have := Nat.le_of_mul_le_mul_right h1 pE
      omega
theorem eq_63 {t T : Nat} (h : val t = T * 2 ^ E74) : t = 4890909195324358656 ↔ T = 9223372036854775808 := by
  constructor
  · intro k; rw [k, val_63] at h; exact (Nat.eq_of_mul_eq_mul_right pE h).symm
  · intro k; rw [k, ← val_63] at h; exact val_inj h
theorem key_m63 : key 14114281232179134464 = -4890909195324358656 := by decide +kernel
theorem key_p63 : key 4890909195324358656 = 4890909195324358656 := by decide +kernel
theorem rg_m63 : ¬ 9218868437227405312 < rg 14114281232179134464 := by decide +kernel
theorem rg_p63 : ¬ 9218868437227405312 < rg 4890909195324358656 := by decide +kernel
theorem key_word (s : Bool) {t : Nat} (h : t < 9223372036854775808) : key (double.word s t) = sz s t := by
  unfold key; rw [sg_word s h, rg_word s h]

/-- a number as a whole one, and its error -/
def toI (x : Nat) : Int := if rg x < 9218868437227405312 ∧ -9223372036854775808 ≤ sz (sg x) (tmag (rg x)) ∧ sz (sg x) (tmag (rg x)) < 9223372036854775808 then sz (sg x) (tmag (rg x)) else 0
def toE (x : Nat) : Int := if rg x < 9218868437227405312 ∧ -9223372036854775808 ≤ sz (sg x) (tmag (rg x)) ∧ sz (sg x) (tmag (rg x)) < 9223372036854775808 then 0 else 1

/-- the whole number that a written whole number says -/
theorem toInt_word (s : Bool) {t T : Nat} (h : t < 9218868437227405312) (hv : val t = T * 2 ^ E74) : (double.read (double.word s t)).toInt .zero = some (sz s T) := by
  have hr : rg (double.word s t) = t := rg_word s (by omega)
  rw [read_num (by rw [hr]; exact h), hr, sg_word s (by omega)]
  unfold Datum.toInt
  rw [integral_num]
  have : tmag t = T := by unfold tmag; rw [hv, Nat.mul_div_cancel _ pE]
  rw [this]
  simp only [signed_eq, Nat.pow_zero, Nat.mul_one]
end FltM
