/- The contracts of pte's Reserved and of the laws' awake. -/
import Derived.Test.YtkiclbnbnjbcaabDoorP3
namespace Go.Proofs.YtkiclbnbnjbcaabDoor
open Go.ChangeShapes Go.WideShapes Go.ChangeAt Go.RowKit
set_option linter.unusedSimpArgs false
set_option linter.unusedVariables false
set_option maxRecDepth 8000

/-- are bits set that may not be? -/
def resV (x level : Int) : Bool := bt x && ((x / 4294967296 % 1048576 != 0) || (if 3 ≤ level then bt (x / 128) else (level == 2 && bt (x / 128) && (x / 4096 % 512 != 0))))

theorem and_above (x : Int) (x0 : 0 ≤ x) (x1 : x < 18446744073709551616) : (bits .and .u64 x 4503595332403200 != 0) = (x / 4294967296 % 1048576 != 0) := by
  rw [and_mask x x0 x1 32 20 _ (by decide) (by omega)]
  simp only [Int.reducePow]
  rcases Decidable.em (x / 4294967296 % 1048576 = 0) with h | h
  · rw [h]; rfl
  · rw [bne_iff_ne.2 h, bne_iff_ne.2 (by omega)]
theorem and_large (x : Int) (x0 : 0 ≤ x) (x1 : x < 18446744073709551616) : (bits .and .u64 x 128 != 0) = bt (x / 128) := by
  rw [and_mask x x0 x1 7 1 _ (by decide) (by omega)]
  simp only [Int.reducePow]
  unfold bt
  rcases (show x / 128 % 2 = 0 ∨ x / 128 % 2 = 1 by omega) with h | h <;> rw [h] <;> rfl
theorem and_inside (x : Int) (x0 : 0 ≤ x) (x1 : x < 18446744073709551616) : (bits .and .u64 x 2093056 != 0) = (x / 4096 % 512 != 0) := by
  rw [and_mask x x0 x1 12 9 _ (by decide) (by omega)]
  simp only [Int.reducePow]
  rcases Decidable.em (x / 4096 % 512 = 0) with h | h
  · rw [h]; rfl
  · rw [bne_iff_ne.2 h, bne_iff_ne.2 (by omega)]
theorem and_both (x a b c : Int) (x0 : 0 ≤ x) (x1 : x < 18446744073709551616) (a0 : 0 ≤ a) (a1 : a < 18446744073709551616) (b0 : 0 ≤ b) (b1 : b < 18446744073709551616) (c1 : c < 18446744073709551616) (hc : c = ((a.toNat ||| b.toNat : Nat) : Int)) :
    (bits .and .u64 x c != 0) = ((bits .and .u64 x a != 0) || (bits .and .u64 x b != 0)) := by
  subst hc
  rw [u64_and x _ x0 x1 (by omega) c1, u64_and x a x0 x1 a0 a1, u64_and x b x0 x1 b0 b1, Int.toNat_natCast, Nat.and_or_distrib_left]
  generalize x.toNat &&& a.toNat = p
  generalize x.toNat &&& b.toNat = q
  have h : (p ||| q = 0) ↔ p = 0 ∧ q = 0 := Nat.or_eq_zero_iff
  by_cases hp : p = 0
  · subst hp; rw [Nat.zero_or]; rfl
  · have hne : p ||| q ≠ 0 := fun e => hp (h.1 e).1
    rw [bne_iff_ne.2 (show ((p ||| q : Nat) : Int) ≠ 0 by omega), bne_iff_ne.2 (show ((p : Nat) : Int) ≠ 0 by omega)]; rfl

theorem and_one_eq (x : Int) (x0 : 0 ≤ x) (x1 : x < 18446744073709551616) : (bits .and .u64 x 1 == 0) = !bt x := by
  rw [← and_one x x0 x1, bne, Bool.not_not]


theorem eq4_ok (W : World) : (binOp .eql 84 (.agg #[.int .i64 0, .int .i64 0, .int .i64 9, .int .i64 52]) (.agg #[.int .i64 0, .int .i64 0, .int .i64 9, .int .i64 52])).run Tryd.prog W = .ok (.bool true) W := by kernel_rfl
end Go.Proofs.YtkiclbnbnjbcaabDoor
