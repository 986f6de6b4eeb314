/- Bits of numbers of 64 bits: masks, one bit more, and how entries' numbers are made of them. -/
import Derived.WalkKit
import Derived.Laws.BitsAll
namespace Go.Proofs.YtkiclbnbnjbcaabDoor
open Go.RowKit
set_option linter.unusedSimpArgs false
set_option linter.unusedVariables false
set_option maxRecDepth 8000

theorem nat_mask (x k n : Nat) : x &&& ((2 ^ n - 1) * 2 ^ k) = (x / 2 ^ k % 2 ^ n) * 2 ^ k := by
  apply Nat.eq_of_testBit_eq
  intro i
  rw [Nat.testBit_and, Nat.testBit_mul_two_pow, Nat.testBit_mul_two_pow, Nat.testBit_mod_two_pow, Nat.testBit_two_pow_sub_one, Nat.testBit_div_two_pow]
  by_cases h : k ≤ i
  · simp [h, show i - k + k = i by omega, Bool.and_comm]
  · simp [h]
theorem nat_bit (h l k : Nat) (hl : l < 2 ^ k) : (h * 2 ^ (k + 1) + l) ||| 2 ^ k = h * 2 ^ (k + 1) + l + 2 ^ k := by
  have e1 : h * 2 ^ (k + 1) + l = 2 ^ (k + 1) * h ||| l := by
    rw [Nat.mul_comm, Nat.two_pow_add_eq_or_of_lt (by rw [Nat.pow_succ]; omega)]
  have e2 : h * 2 ^ (k + 1) + l + 2 ^ k = 2 ^ (k + 1) * h ||| (2 ^ k * 1 ||| l) := by
    rw [← Nat.two_pow_add_eq_or_of_lt hl, ← Nat.two_pow_add_eq_or_of_lt (by rw [Nat.pow_succ]; omega), Nat.mul_comm]; omega
  rw [e2, e1, Nat.mul_one, Nat.or_assoc, Nat.or_comm l]

theorem toNat_div (x : Int) (h : 0 ≤ x) (k : Nat) : (x / 2 ^ k).toNat = x.toNat / 2 ^ k := by
  obtain ⟨n, rfl⟩ := Int.eq_ofNat_of_zero_le h
  have : ((n : Int) / 2 ^ k) = ((n / 2 ^ k : Nat) : Int) := by rw [Int.natCast_ediv, Int.natCast_pow]; rfl
  rw [this]; rfl
theorem and_mask (x : Int) (x0 : 0 ≤ x) (x1 : x < 18446744073709551616) (k n : Nat) (m : Int) (hm : m = ((2 ^ n - 1) * 2 ^ k : Nat)) (m1 : m < 18446744073709551616) :
    bits .and .u64 x m = x / 2 ^ k % 2 ^ n * 2 ^ k := by
  subst hm
  rw [u64_and _ _ x0 x1 (by omega) m1, Int.toNat_natCast, nat_mask]
  rw [Int.natCast_mul, Int.natCast_emod, Int.natCast_ediv, Int.toNat_of_nonneg x0]
  simp only [Int.natCast_pow]
  rfl
theorem or_bit (X : Int) (k : Nat) (h l : Int) (h0 : 0 ≤ h) (l0 : 0 ≤ l) (l1 : l < 2 ^ k) (hX : X = h * 2 ^ (k + 1) + l) (b : Int) (hb : b = 2 ^ k) (b1 : b < 18446744073709551616) (x1 : X < 18446744073709551616) : bits .or .u64 X b = X + b := by
  obtain ⟨hn, rfl⟩ := Int.eq_ofNat_of_zero_le h0
  obtain ⟨ln, rfl⟩ := Int.eq_ofNat_of_zero_le l0
  have e : X = ((hn * 2 ^ (k + 1) + ln : Nat) : Int) := by rw [hX, Int.natCast_add, Int.natCast_mul, Int.natCast_pow]; rfl
  have eb : b = ((2 ^ k : Nat) : Int) := by rw [hb, Int.natCast_pow]; rfl
  have l2 : ln < 2 ^ k := by rw [← hb, eb] at l1; omega
  rw [u64_or _ _ (by omega) x1 (by omega) b1, e, eb, Int.toNat_natCast, Int.toNat_natCast, nat_bit _ _ _ l2]
  omega

/-- what a flag adds to a number -/
def fl (b : Bool) (v : Int) : Int := if b then v else 0
theorem fl_true (v : Int) : fl true v = v := rfl
theorem fl_false (v : Int) : fl false v = 0 := rfl
/-- an entry's number -/
def packV (p w u a d l g n : Bool) (f : Int) : Int := f * 4096 + fl p 1 + fl w 2 + fl u 4 + fl a 32 + fl d 64 + fl l 128 + fl g 256 + fl n 9223372036854775808
/-- a bit of a number -/
def bt (x : Int) : Bool := x % 2 == 1
theorem and_one (x : Int) (x0 : 0 ≤ x) (x1 : x < 18446744073709551616) : (bits .and .u64 x 1 != 0) = bt x := by
  rw [and_mask x x0 x1 0 1 1 (by decide) (by omega)]
  unfold bt
  rcases (show x % 2 = 0 ∨ x % 2 = 1 by omega) with h | h <;> simp [h]
end Go.Proofs.YtkiclbnbnjbcaabDoor
