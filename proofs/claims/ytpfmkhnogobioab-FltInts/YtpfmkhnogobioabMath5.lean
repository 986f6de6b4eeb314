/- Plain facts on numbers' bits: sums and products that are exact; whole numbers. -/
import Derived.Test.YtpfmkhnogobioabMath4
namespace FltM
open Ieee
set_option linter.unusedVariables false

theorem nearest_val (s : Bool) {M r : Nat} (a b : Nat) {p : Int} (h : M * 2 ^ a = val r * 2 ^ b) (hp : p + b = -1074 + a) (hr : r ≤ 9218868437227405312) : double.nearest s M p = double.word s r := by
  have e1 := nearest_scale s M a (p - a)
  rw [show p - (a : Int) + a = p by omega] at e1
  rw [← e1, h, nearest_scale, show p - (a : Int) + b = -1074 + ((0 : Nat) : Int) by omega]
  exact nearest_exact s (val r) 0 r (by rw [Nat.pow_zero, Nat.mul_one]) hr

theorem natAbs_mul_pow (t : Int) (k : Nat) : (t * ((2 ^ k : Nat) : Int)).natAbs = t.natAbs * 2 ^ k := by
  rw [Int.natAbs_mul, Int.natAbs_natCast]

theorem sum_exact (s s' : Bool) {r t u : Nat} (hu : (sz s (val r) + sz s' (val t)).natAbs = val u) (hi : u ≤ 9218868437227405312) :
    ((Datum.number s (mant r) (-1074 + (shf r : Int))).sum (.number s' (mant t) (-1074 + (shf t : Int)))).map double.write
      = some (double.word (if sz s (val r) + sz s' (val t) = 0 then s && s' else decide (sz s (val r) + sz s' (val t) < 0)) u) := by
  simp only [Datum.sum, Option.map_some, Format.write]
  have hb : min (-1074 + (shf r : Int)) (-1074 + (shf t : Int)) = -1074 + ((min (shf r) (shf t) : Nat) : Int) := by omega
  rw [hb]
  generalize hk : min (shf r) (shf t) = k
  have h1 := signed_val s r k (by omega)
  have h2 := signed_val s' t k (by omega)
  generalize signed s (mant r) (-1074 + (shf r : Int) - (-1074 + (k : Int))).toNat = A at *
  generalize signed s' (mant t) (-1074 + (shf t : Int) - (-1074 + (k : Int))).toNat = B at *
  have hsum : sz s (val r) + sz s' (val t) = (A + B) * ((2 ^ k : Nat) : Int) := by rw [Int.add_mul, h1, h2]
  have hp : (0 : Int) < ((2 ^ k : Nat) : Int) := by have := Nat.two_pow_pos k; omega
  rw [hsum] at hu
  rw [hsum]
  rw [natAbs_mul_pow] at hu
  have hz : (A + B) * ((2 ^ k : Nat) : Int) = 0 ↔ A + B = 0 := by
    rw [Int.mul_eq_zero]
    exact ⟨fun h => h.resolve_right (by omega), Or.inl⟩
  have hlt : (A + B) * ((2 ^ k : Nat) : Int) < 0 ↔ A + B < 0 := by
    constructor
    · intro h
      rcases Int.lt_or_le (A + B) 0 with c | c
      · exact c
      · have := Int.mul_nonneg c (Int.le_of_lt hp); omega
    · intro h; exact Int.mul_neg_of_neg_of_pos h hp
  simp only [hz, hlt]
  congr 1
  exact nearest_exact _ _ k u hu hi

/-- a number's value is a whole one -/
theorem fromI_word {n : Int} (h : n.natAbs < 9007199254740992) : ∃ r, r < 9218868437227405312 ∧ val r = n.natAbs * 2 ^ E74 ∧ fromI n = double.word (decide (n < 0)) r := by
  obtain ⟨r, hr⟩ := exists_rung E74 n.natAbs h
  have hi := rung_lt_inf hr h (by rw [E74_eq]; omega)
  refine ⟨r, hi, hr, ?_⟩
  unfold fromI
  exact nearest_val _ E74 0 (by rw [Nat.pow_zero, Nat.mul_one]; exact hr.symm) (by rw [E74_eq]; rfl) (by omega)

theorem toI_word {s : Bool} {r T : Nat} (hr : r < 9218868437227405312) (hv : val r = T * 2 ^ E74) (h1 : -9223372036854775808 ≤ sz s T) (h2 : sz s T < 9223372036854775808) :
    toI (double.word s r) = sz s T ∧ toE (double.word s r) = 0 := by
  have e1 : rg (double.word s r) = r := rg_word s (by omega)
  have e2 : sg (double.word s r) = s := sg_word s (by omega)
  have e3 : tmag r = T := by unfold tmag; rw [hv, Nat.mul_div_cancel _ pE]
  unfold toI toE
  rw [e1, e2, e3]
  rw [if_pos ⟨hr, h1, h2⟩, if_pos ⟨hr, h1, h2⟩]
  exact ⟨rfl, rfl⟩
theorem sz_of (n : Int) : sz (decide (n < 0)) n.natAbs = n := by
  unfold sz
  by_cases c : n < 0
  · rw [decide_eq_true c, if_pos rfl]; omega
  · rw [decide_eq_false c, if_neg (by decide)]; omega

theorem prod_exact (s s' : Bool) {r t u : Nat} {A B : Nat} (hr : val r = A * 2 ^ E74) (ht : val t = B * 2 ^ E74) (hu : val u = A * B * 2 ^ E74) (hi : u ≤ 9218868437227405312) :
    ((Datum.number s (mant r) (-1074 + (shf r : Int))).product (.number s' (mant t) (-1074 + (shf t : Int)))).map double.write = some (double.word (s ^^ s') u) := by
  simp only [Datum.product, Option.map_some, Format.write]
  congr 1
  refine nearest_val _ (shf r + shf t) E74 ?_ ?_ hi
  · rw [hu, Nat.pow_add]
    have e : mant r * mant t * (2 ^ shf r * 2 ^ shf t) = val r * val t := by unfold val; rw [Nat.mul_mul_mul_comm]
    rw [e, hr, ht, Nat.mul_mul_mul_comm, ← Nat.mul_assoc]
  · rw [E74_eq]; omega

theorem read_word (s : Bool) {r : Nat} (h : r < 9218868437227405312) : double.read (double.word s r) = .number s (mant r) (-1074 + (shf r : Int)) := by
  rw [read_num (by rw [rg_word s (by omega)]; exact h), rg_word s (by omega), sg_word s (by omega)]

theorem val_one : val 4607182418800017408 = 2 ^ E74 := by
  have e : val 4607182418800017408 = mant 4607182418800017408 * 2 ^ shf 4607182418800017408 := rfl
  rw [e, show mant 4607182418800017408 = 2 ^ 52 by decide, show shf 4607182418800017408 = E74 - 52 by decide, ← Nat.pow_add, show 52 + (E74 - 52) = E74 by decide]
theorem lt_of_val {u t : Nat} (h : val u < val t) : u < t := by
  rcases Nat.lt_or_ge u t with c | c
  · exact c
  · rcases Nat.lt_or_ge t u with d | d
    · have := val_mono d; omega
    · rw [show u = t by omega] at h; omega
/-- what lies behind the point is a number of the format -/
theorem frac_rung (r : Nat) : ∃ u, val u = val r % 2 ^ E74 := by
  by_cases c : E74 ≤ shf r
  · refine ⟨0, ?_⟩
    have hk : shf r - E74 + E74 = shf r := by omega
    rw [val_zero]; unfold val
    rw [← hk, Nat.pow_add, ← Nat.mul_assoc, Nat.mul_mod_left]
  · have e2 : (2 : Nat) ^ E74 = 2 ^ (E74 - shf r) * 2 ^ shf r := by rw [← Nat.pow_add, show E74 - shf r + shf r = E74 by omega]
    have e3 : val r % 2 ^ E74 = mant r % 2 ^ (E74 - shf r) * 2 ^ shf r := by unfold val; rw [e2, Nat.mul_mod_mul_right]
    rw [e3]
    exact exists_rung (shf r) _ (Nat.lt_of_le_of_lt (Nat.mod_le _ _) (mant_lt r))
end FltM
