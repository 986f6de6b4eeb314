/- Entries go and come back: numbers. -/
import Derived.Test.YtkiclbnbnjbcaabDoorP5
namespace Go.Proofs.YtkiclbnbnjbcaabDoor
open Go.ChangeShapes Go.WideShapes Go.ChangeAt Go.RowKit
set_option linter.unusedSimpArgs false
set_option linter.unusedVariables false
set_option maxRecDepth 8000

theorem fl_bt (y v : Int) : fl (bt y) v = y % 2 * v := by
  unfold fl bt
  rcases (show y % 2 = 0 ∨ y % 2 = 1 by omega) with h | h <;> rw [h] <;> simp
theorem bt_of {y z : Int} (h : y % 2 = z % 2) : bt y = bt z := by unfold bt; rw [h]
theorem bt_fl (b : Bool) (y : Int) (h : y % 2 = fl b 1) : bt y = b := by
  unfold bt; rw [h]; cases b <;> rfl
theorem fl_mul (b : Bool) (v : Int) : fl b v = fl b 1 * v := by cases b <;> simp [fl]
theorem bt_at (b : Bool) (S t r m : Int) (m0 : 0 < m) (r0 : 0 ≤ r) (r1 : r < m) (h : S = (2 * t + fl b 1) * m + r) : bt (S / m) = b := by
  have e : S / m = 2 * t + fl b 1 := by
    rw [h, Int.add_comm, Int.add_mul_ediv_right _ _ (by omega), Int.ediv_eq_zero_of_lt r0 r1]; omega
  apply bt_fl
  rw [e]
  have := fl_bd b 1 (by omega)
  omega
theorem split8 (n : Nat) : n % 8 = n % 2 + n / 2 % 2 * 2 + n / 4 % 2 * 4 := by omega
theorem split16 (n : Nat) : n % 16 = n % 2 + n / 2 % 2 * 2 + n / 4 % 2 * 4 + n / 8 % 2 * 8 := by omega
theorem and_says (x : Int) (x0 : 0 ≤ x) (x1 : x < 18446744073709551616) : bits .and .u64 x 9223372041149739495 = packV (bt x) (bt (x / 2)) (bt (x / 4)) (bt (x / 32)) (bt (x / 64)) (bt (x / 128)) (bt (x / 256)) (bt (x / 9223372036854775808)) (x / 4096 % 1048576) := by
  rw [u64_and _ _ x0 x1 (by omega) (by omega)]
  obtain ⟨n, rfl⟩ := Int.eq_ofNat_of_zero_le x0
  have hm : (9223372041149739495 : Int).toNat = (((2 ^ 3 - 1) * 2 ^ 0 ||| (2 ^ 4 - 1) * 2 ^ 5) ||| (2 ^ 20 - 1) * 2 ^ 12) ||| (2 ^ 1 - 1) * 2 ^ 63 := by decide
  rw [hm, Int.toNat_natCast, Nat.and_or_distrib_left, Nat.and_or_distrib_left, Nat.and_or_distrib_left, nat_mask, nat_mask, nat_mask, nat_mask]
  have e1 : (n / 2 ^ 0 % 2 ^ 3 * 2 ^ 0 ||| n / 2 ^ 5 % 2 ^ 4 * 2 ^ 5) = n / 2 ^ 5 % 2 ^ 4 * 2 ^ 5 + n / 2 ^ 0 % 2 ^ 3 * 2 ^ 0 := by
    rw [Nat.or_comm, Nat.mul_comm _ (2 ^ 5), ← Nat.two_pow_add_eq_or_of_lt (by simp only [Nat.reducePow]; omega)]
  rw [e1]
  have e2 : (n / 2 ^ 5 % 2 ^ 4 * 2 ^ 5 + n / 2 ^ 0 % 2 ^ 3 * 2 ^ 0 ||| n / 2 ^ 12 % 2 ^ 20 * 2 ^ 12) = n / 2 ^ 12 % 2 ^ 20 * 2 ^ 12 + (n / 2 ^ 5 % 2 ^ 4 * 2 ^ 5 + n / 2 ^ 0 % 2 ^ 3 * 2 ^ 0) := by
    rw [Nat.or_comm, Nat.mul_comm _ (2 ^ 12), ← Nat.two_pow_add_eq_or_of_lt (by simp only [Nat.reducePow]; omega)]
  rw [e2]
  have e3 : (n / 2 ^ 12 % 2 ^ 20 * 2 ^ 12 + (n / 2 ^ 5 % 2 ^ 4 * 2 ^ 5 + n / 2 ^ 0 % 2 ^ 3 * 2 ^ 0) ||| n / 2 ^ 63 % 2 ^ 1 * 2 ^ 63) = n / 2 ^ 63 % 2 ^ 1 * 2 ^ 63 + (n / 2 ^ 12 % 2 ^ 20 * 2 ^ 12 + (n / 2 ^ 5 % 2 ^ 4 * 2 ^ 5 + n / 2 ^ 0 % 2 ^ 3 * 2 ^ 0)) := by
    rw [Nat.or_comm, Nat.mul_comm _ (2 ^ 63), ← Nat.two_pow_add_eq_or_of_lt (by simp only [Nat.reducePow]; omega)]
  rw [e3]
  unfold packV
  simp only [fl_bt, Nat.reducePow, Nat.div_one, Nat.mul_one, Nat.pow_one, Int.mul_one]
  have h1 := split8 n
  have h2 := split16 (n / 32)
  rw [Nat.div_div_eq_div_mul, Nat.div_div_eq_div_mul, Nat.div_div_eq_div_mul] at h2
  simp only [Nat.reduceMul] at h2
  rw [h1, h2]
  have c2 : ((n : Int) / 2 % 2) = ((n / 2 % 2 : Nat) : Int) := rfl
  have c4 : ((n : Int) / 4 % 2) = ((n / 4 % 2 : Nat) : Int) := rfl
  have c32 : ((n : Int) / 32 % 2) = ((n / 32 % 2 : Nat) : Int) := rfl
  have c64 : ((n : Int) / 64 % 2) = ((n / 64 % 2 : Nat) : Int) := rfl
  have c128 : ((n : Int) / 128 % 2) = ((n / 128 % 2 : Nat) : Int) := rfl
  have c256 : ((n : Int) / 256 % 2) = ((n / 256 % 2 : Nat) : Int) := rfl
  have c63 : ((n : Int) / 9223372036854775808 % 2) = ((n / 9223372036854775808 % 2 : Nat) : Int) := rfl
  have cf : ((n : Int) / 4096 % 1048576) = ((n / 4096 % 1048576 : Nat) : Int) := by simp
  have c1 : ((n : Int) % 2) = ((n % 2 : Nat) : Int) := by simp
  rw [c1, c2, c4, c32, c64, c128, c256, c63, cf]
  generalize n % 2 = y0
  generalize n / 2 % 2 = y1
  generalize n / 4 % 2 = y2
  generalize n / 32 % 2 = y3
  generalize n / 64 % 2 = y4
  generalize n / 128 % 2 = y5
  generalize n / 256 % 2 = y6
  generalize n / 9223372036854775808 % 2 = y7
  generalize n / 4096 % 1048576 = y8
  clear h1 h2 c1 c2 c4 c32 c64 c128 c256 c63 cf e1 e2 e3 hm x0 x1
  omega
theorem unp_pack (p q u a d l g n : Bool) (f : Int) (f0 : 0 ≤ f) (f1 : f < 1048576) : unp (packV p q u a d l g n f) = .agg #[.bool p, .bool q, .bool u, .bool a, .bool d, .bool l, .bool g, .bool n, .int .i64 f] := by
  have h0 := fl_bd p 1 (by omega)
  have h1 := fl_bd q 1 (by omega)
  have h2 := fl_bd u 1 (by omega)
  have h3 := fl_bd a 1 (by omega)
  have h4 := fl_bd d 1 (by omega)
  have h5 := fl_bd l 1 (by omega)
  have h6 := fl_bd g 1 (by omega)
  have h7 := fl_bd n 1 (by omega)
  obtain ⟨S, hS⟩ : ∃ S, packV p q u a d l g n f = S := ⟨_, rfl⟩
  have e : S = f * 4096 + fl p 1 + fl q 1 * 2 + fl u 1 * 4 + fl a 1 * 32 + fl d 1 * 64 + fl l 1 * 128 + fl g 1 * 256 + fl n 1 * 9223372036854775808 := by
    rw [← hS]; unfold packV
    rw [fl_mul q 2, fl_mul u 4, fl_mul a 32, fl_mul d 64, fl_mul l 128, fl_mul g 256, fl_mul n 9223372036854775808]
  rw [hS]
  clear hS
  unfold unp
  have b0 : bt S = p := by
    have := bt_at p S (f * 2048 + fl q 1 + fl u 1 * 2 + fl a 1 * 16 + fl d 1 * 32 + fl l 1 * 64 + fl g 1 * 128 + fl n 1 * 4611686018427387904) 0 1 (by omega) (by omega) (by omega) (by omega)
    rw [Int.ediv_one] at this; exact this
  have b1 : bt (S / 2) = q := bt_at q S (f * 1024 + fl u 1 + fl a 1 * 8 + fl d 1 * 16 + fl l 1 * 32 + fl g 1 * 64 + fl n 1 * 2305843009213693952) (fl p 1) 2 (by omega) (by omega) (by omega) (by omega)
  have b2 : bt (S / 4) = u := bt_at u S (f * 512 + fl a 1 * 4 + fl d 1 * 8 + fl l 1 * 16 + fl g 1 * 32 + fl n 1 * 1152921504606846976) (fl p 1 + fl q 1 * 2) 4 (by omega) (by omega) (by omega) (by omega)
  have b3 : bt (S / 32) = a := bt_at a S (f * 64 + fl d 1 + fl l 1 * 2 + fl g 1 * 4 + fl n 1 * 144115188075855872) (fl p 1 + fl q 1 * 2 + fl u 1 * 4) 32 (by omega) (by omega) (by omega) (by omega)
  have b4 : bt (S / 64) = d := bt_at d S (f * 32 + fl l 1 + fl g 1 * 2 + fl n 1 * 72057594037927936) (fl p 1 + fl q 1 * 2 + fl u 1 * 4 + fl a 1 * 32) 64 (by omega) (by omega) (by omega) (by omega)
  have b5 : bt (S / 128) = l := bt_at l S (f * 16 + fl g 1 + fl n 1 * 36028797018963968) (fl p 1 + fl q 1 * 2 + fl u 1 * 4 + fl a 1 * 32 + fl d 1 * 64) 128 (by omega) (by omega) (by omega) (by omega)
  have b6 : bt (S / 256) = g := bt_at g S (f * 8 + fl n 1 * 18014398509481984) (fl p 1 + fl q 1 * 2 + fl u 1 * 4 + fl a 1 * 32 + fl d 1 * 64 + fl l 1 * 128) 256 (by omega) (by omega) (by omega) (by omega)
  have b7 : bt (S / 9223372036854775808) = n := bt_at n S 0 (f * 4096 + fl p 1 + fl q 1 * 2 + fl u 1 * 4 + fl a 1 * 32 + fl d 1 * 64 + fl l 1 * 128 + fl g 1 * 256) 9223372036854775808 (by omega) (by omega) (by omega) (by omega)
  have b8 : S / 4096 % 1048576 = f := by
    have e2 : S = (f + fl n 1 * 2251799813685248) * 4096 + (fl p 1 + fl q 1 * 2 + fl u 1 * 4 + fl a 1 * 32 + fl d 1 * 64 + fl l 1 * 128 + fl g 1 * 256) := by omega
    rw [e2, Int.add_comm, Int.add_mul_ediv_right _ _ (by omega), Int.ediv_eq_zero_of_lt (by omega) (by omega)]
    generalize fl n 1 = z
    clear e e2 b0 b1 b2 b3 b4 b5 b6 b7 h0 h1 h2 h3 h4 h5 h6 h7
    omega
  rw [b0, b1, b2, b3, b4, b5, b6, b7, b8]
end Go.Proofs.YtkiclbnbnjbcaabDoor
