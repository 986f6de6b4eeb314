/- Plain facts on numbers' bits: nought, one, and halves. -/
import Derived.Test.YtpfmkhnogobioabMath2
namespace FltM
open Ieee
set_option linter.unusedVariables false

theorem read_negzero : double.read 9223372036854775808 = .number true 0 (-1074) := by decide +kernel
theorem read_zero : double.read 0 = .number false 0 (-1074) := by decide +kernel
theorem read_one : double.read 4607182418800017408 = .number false 4503599627370496 (-52) := by decide +kernel
theorem read_two : double.read 4611686018427387904 = .number false 4503599627370496 (-51) := by decide +kernel
theorem sz_natAbs (s : Bool) (n : Nat) : (sz s n).natAbs = n := by unfold sz; cases s <;> simp
theorem sz_zero_iff (s : Bool) (n : Nat) : sz s n = 0 ↔ n = 0 := by unfold sz; cases s <;> simp
theorem sz_neg {s : Bool} {n : Nat} (h : n ≠ 0) : decide (sz s n < 0) = s := by unfold sz; cases s <;> simp <;> omega

/-- a number and minus nought -/
theorem sum_negzero {a : Nat} (h : a < 18446744073709551616) (hn : ¬ 9218868437227405312 < rg a) : ((double.read a).sum (.number true 0 (-1074))).map double.write = some a := by
  by_cases c : rg a = 9218868437227405312
  · have hw := write_read h (by omega)
    rw [read_inf c] at *
    simp only [Datum.sum, Option.map_some, hw]
  · have hr : rg a < 9218868437227405312 := by omega
    rw [read_num hr]
    simp only [Datum.sum, Option.map_some]
    have hb : min (-1074 + (shf (rg a) : Int)) (-1074) = -1074 + ((0 : Nat) : Int) := by omega
    rw [hb]
    have h2 : signed true 0 (-1074 - (-1074 + ((0 : Nat) : Int))).toNat = 0 := by rw [signed_eq]; simp [sz]
    have h1 : signed (sg a) (mant (rg a)) ((-1074 + (shf (rg a) : Int)) - (-1074 + ((0 : Nat) : Int))).toNat = sz (sg a) (val (rg a)) := by
      have := signed_val (sg a) (rg a) 0 (Nat.zero_le _)
      rw [Nat.pow_zero] at this
      rw [← this]; simp
    rw [h1, h2, Int.add_zero, sz_natAbs]
    have h3 : (if sz (sg a) (val (rg a)) = 0 then sg a && true else decide (sz (sg a) (val (rg a)) < 0)) = sg a := by
      by_cases z : val (rg a) = 0
      · rw [if_pos ((sz_zero_iff _ _).2 z), Bool.and_true]
      · rw [if_neg (fun k => z ((sz_zero_iff _ _).1 k)), sz_neg z]
    rw [h3]
    simp only [Format.write]
    rw [nearest_exact (sg a) (val (rg a)) 0 (rg a) (by rw [Nat.pow_zero, Nat.mul_one]) (by omega), word_self h]
theorem add_negzero {a : Nat} (h : a < 18446744073709551616) (hn : ¬ 9218868437227405312 < rg a) : double.add a 9223372036854775808 = some a := by
  unfold Format.add; rw [read_negzero]; exact sum_negzero h hn
theorem sub_zero {a : Nat} (h : a < 18446744073709551616) (hn : ¬ 9218868437227405312 < rg a) : double.sub a 0 = some a := by
  unfold Format.sub; rw [read_zero]; exact sum_negzero h hn

theorem mul_one' {a : Nat} (h : a < 18446744073709551616) (hn : ¬ 9218868437227405312 < rg a) : double.mul a 4607182418800017408 = some a := by
  unfold Format.mul; rw [read_one]
  have hw := write_read h (by omega)
  by_cases c : rg a = 9218868437227405312
  · rw [read_inf c] at *
    simp only [Datum.product]
    rw [if_neg (by omega), Option.map_some, Bool.xor_false, hw]
  · have hr : rg a < 9218868437227405312 := by omega
    rw [read_num hr]
    simp only [Datum.product, Option.map_some, Bool.xor_false, Format.write]
    rw [show 4503599627370496 = 2 ^ 52 from rfl, nearest_scale]
    rw [show -1074 + (shf (rg a) : Int) + -52 + ((52 : Nat) : Int) = -1074 + (shf (rg a) : Int) by omega, nearest_own _ (by omega), word_self h]

theorem log2_mant (r : Nat) : (mant r).log2 ≤ 52 := by
  have h := mant_lt r
  by_cases c : mant r = 0
  · rw [c]; decide
  · have : (mant r).log2 < 53 := (Nat.log2_lt c).2 (by simpa using h)
    omega
theorem log2_b : Nat.log2 4503599627370496 = 52 := by decide +kernel

/-- the quotient by a power of two, whose place is given -/
theorem quotient_pow {a : Nat} (hr : rg a < 9218868437227405312) (p : Int) :
    (((double.read a).quotient 54 (.number false 4503599627370496 p)).map double.write) = some (double.nearest (sg a) (mant (rg a)) (-1074 + (shf (rg a) : Int) - p - 52)) := by
  rw [read_num hr]
  simp only [Datum.quotient]
  rw [if_neg (by omega)]
  simp only [Option.map_some, Bool.xor_false, Format.write, log2_b]
  have hl := log2_mant (rg a)
  generalize hM : 54 + 52 - (mant (rg a)).log2 = M
  have hM2 : M = (M - 52) + 52 := by omega
  have hd : mant (rg a) <<< M = mant (rg a) * 2 ^ (M - 52) * 4503599627370496 := by
    rw [Nat.shiftLeft_eq, show 4503599627370496 = 2 ^ 52 from rfl, Nat.mul_assoc, ← Nat.pow_add, ← hM2]
  rw [hd, Nat.mul_div_cancel _ (by omega), Nat.mul_mod_left]
  simp only [bne_self_eq_false, Bool.toNat_false, Nat.add_zero]
  congr 1
  have e2 : 2 * (mant (rg a) * 2 ^ (M - 52)) = mant (rg a) * 2 ^ (M - 51) := by
    rw [show M - 51 = (M - 52) + 1 by omega, Nat.pow_succ, Nat.mul_comm 2, Nat.mul_assoc]
  rw [e2, nearest_scale]
  congr 1
  omega
theorem div_one {a : Nat} (h : a < 18446744073709551616) (hn : ¬ 9218868437227405312 < rg a) : double.div a 4607182418800017408 = some a := by
  unfold Format.div; rw [read_one]
  by_cases c : rg a = 9218868437227405312
  · have hw := write_read h (by omega)
    rw [read_inf c] at *
    simp only [Datum.quotient, Option.map_some, Bool.xor_false, hw]
  · have hr : rg a < 9218868437227405312 := by omega
    have := quotient_pow hr (-52)
    rw [fb_eq]
    rw [this, show -1074 + (shf (rg a) : Int) - -52 - 52 = -1074 + (shf (rg a) : Int) by omega, nearest_own _ (by omega), word_self h]

/-- half of a number that isn't too small, and twice that -/
def half (a : Nat) : Nat := if rg a = 9218868437227405312 then a else double.word (sg a) (rg a - 4503599627370496)
theorem half_lt {a : Nat} (h : a < 18446744073709551616) : half a < 18446744073709551616 := by
  unfold half; split
  · exact h
  · exact word_lt64 _ (by have := rg_lt a; omega)
theorem div_two {a : Nat} (h : a < 18446744073709551616) (hn : ¬ 9218868437227405312 < rg a) (h2 : 9007199254740992 ≤ rg a) : double.div a 4611686018427387904 = some (half a) := by
  unfold Format.div half; rw [read_two]
  by_cases c : rg a = 9218868437227405312
  · have hw := write_read h (by omega)
    rw [if_pos c, read_inf c] at *
    simp only [Datum.quotient, Option.map_some, Bool.xor_false, hw]
  · have hr : rg a < 9218868437227405312 := by omega
    rw [if_neg c]
    have := quotient_pow hr (-51)
    rw [fb_eq]
    rw [this]
    have e1 : mant (rg a) = mant (rg a - 4503599627370496) := by unfold mant; rw [if_neg (by omega), if_neg (by omega)]; omega
    have e2 : shf (rg a) = shf (rg a - 4503599627370496) + 1 := by unfold shf; rw [if_neg (by omega), if_neg (by omega)]; omega
    rw [e1, e2, show -1074 + ((shf (rg a - 4503599627370496) + 1 : Nat) : Int) - -51 - 52 = -1074 + (shf (rg a - 4503599627370496) : Int) by omega, nearest_own _ (by omega)]
theorem add_half {a : Nat} (h : a < 18446744073709551616) (hn : ¬ 9218868437227405312 < rg a) (h2 : 9007199254740992 ≤ rg a) : double.add (half a) (half a) = some a := by
  unfold Format.add half
  by_cases c : rg a = 9218868437227405312
  · have hw := write_read h (by omega)
    rw [if_pos c, read_inf c] at *
    simp only [Datum.sum, if_true, Option.map_some, hw]
  · have hr : rg a < 9218868437227405312 := by omega
    rw [if_neg c]
    have hr' : rg (double.word (sg a) (rg a - 4503599627370496)) = rg a - 4503599627370496 := rg_word _ (by omega)
    have hs' : sg (double.word (sg a) (rg a - 4503599627370496)) = sg a := sg_word _ (by omega)
    rw [read_num (by rw [hr']; omega), hr', hs']
    have e1 : mant (rg a - 4503599627370496) = mant (rg a) := by unfold mant; rw [if_neg (by omega), if_neg (by omega)]; omega
    have e2 : shf (rg a) = shf (rg a - 4503599627370496) + 1 := by unfold shf; rw [if_neg (by omega), if_neg (by omega)]; omega
    have hm : mant (rg a) ≠ 0 := by unfold mant; rw [if_neg (by omega)]; omega
    simp only [Datum.sum, Option.map_some, Int.min_self, Int.sub_self, Int.toNat_zero]
    rw [signed_eq, Nat.pow_zero, Nat.mul_one, e1]
    have e3 : sz (sg a) (mant (rg a)) + sz (sg a) (mant (rg a)) = sz (sg a) (mant (rg a) * 2 ^ 1) := by
      rw [sz_mul]; simp; omega
    have hm2 : mant (rg a) * 2 ^ 1 ≠ 0 := by omega
    rw [e3, sz_natAbs, if_neg (fun k => hm2 ((sz_zero_iff _ _).1 k)), sz_neg hm2]
    simp only [Format.write]
    rw [nearest_scale, show -1074 + (shf (rg a - 4503599627370496) : Int) + ((1 : Nat) : Int) = -1074 + (shf (rg a) : Int) by omega, nearest_own _ (by omega), word_self h]
theorem fromI_two : fromI 2 = 4611686018427387904 := by decide +kernel
theorem rg_one : rg 4607182418800017408 = 4607182418800017408 := by decide +kernel
theorem rg_two : rg 4611686018427387904 = 4611686018427387904 := by decide +kernel
theorem rg_half {a : Nat} (hn : ¬ 9218868437227405312 < rg a) : ¬ 9218868437227405312 < rg (half a) := by
  unfold half; split
  · omega
  · rw [rg_word _ (by have := rg_lt a; omega)]; omega

theorem reck_of {op : Int} {a b r : Nat} (n1 : ¬ 9218868437227405312 < rg a) (n2 : ¬ 9218868437227405312 < rg b)
    (h : op = 1 ∧ double.add a b = some r ∨ op = 2 ∧ double.sub a b = some r ∨ op = 3 ∧ double.mul a b = some r ∨ op = 4 ∧ double.div a b = some r) : reck op a b = r := by
  unfold reck
  rw [if_neg (by omega)]
  rcases h with ⟨rfl, h⟩ | ⟨rfl, h⟩ | ⟨rfl, h⟩ | ⟨rfl, h⟩
  · rw [if_pos rfl, h]; rfl
  · rw [if_neg (by omega), if_pos rfl, h]; rfl
  · rw [if_neg (by omega), if_neg (by omega), if_pos rfl, h]; rfl
  · rw [if_neg (by omega), if_neg (by omega), if_neg (by omega), if_pos rfl, h]; rfl
theorem doR_of {op : Int} {a b r : Nat} (n1 : ¬ 9218868437227405312 < rg a) (n2 : ¬ 9218868437227405312 < rg b)
    (h : op = 1 ∧ double.add a b = some r ∨ op = 2 ∧ double.sub a b = some r ∨ op = 3 ∧ double.mul a b = some r ∨ op = 4 ∧ double.div a b = some r) : doR op a b = r := by
  unfold doR; rw [if_neg (by omega), if_neg (by omega), if_neg (by omega), reck_of n1 n2 h]
/-- what is told beside a result that is no NaN and infinite only where an operand is -/
theorem tells_of {op : Int} {a b r : Nat} (n1 : ¬ 9218868437227405312 < rg a) (n2 : ¬ 9218868437227405312 < rg b) (nr : ¬ 9218868437227405312 < rg r)
    (hd : op = 4 → cls b ≠ 0) (hi : cls r = 3 → cls a = 3 ∨ cls b = 3) : tells op a b r = 0 := by
  have s1 : sigs a = false := by unfold sigs; rw [decide_eq_false n1]; rfl
  have s2 : sigs b = false := by unfold sigs; rw [decide_eq_false n2]; rfl
  have c1 : ¬ cls a = 4 := fun k => n1 ((cls_nan a).1 k)
  have c2 : ¬ cls b = 4 := fun k => n2 ((cls_nan b).1 k)
  have c3 : ¬ cls r = 4 := fun k => nr ((cls_nan r).1 k)
  unfold tells
  rw [if_neg (by simp [s1, s2]), if_neg (by omega), if_neg c3, if_neg (fun k => hd k.1 k.2.1), if_neg (fun k => (hi k.1).elim k.2.1 k.2.2)]
end FltM
