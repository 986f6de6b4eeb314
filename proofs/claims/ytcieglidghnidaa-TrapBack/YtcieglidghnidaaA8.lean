/- Numbers: bits of what was told. -/
import Derived.Test.YtcieglidghnidaaA0
namespace Go.Proofs.Ytcieglidghnidaa
open Go.ChangeShapes Go.WideShapes Go.ChangeAt Go.RowKit Go.Maps
set_option linter.unusedSimpArgs false
set_option linter.unusedVariables false

theorem wrap_toInt (x : BitVec 64) : IntKind.i64.wrap ((x.toNat : Nat) : Int) = x.toInt := by
  rw [IntKind.wrap_i64, BitVec.toInt_eq_toNat_cond]
  have := x.isLt
  split <;> omega
theorem bor (a b : Int) : bits .or .i64 a b = (BitVec.ofInt 64 a ||| BitVec.ofInt 64 b).toInt := by
  show IntKind.i64.wrap _ = _
  exact wrap_toInt _
theorem band (a b : Int) : bits .and .i64 a b = (BitVec.ofInt 64 a &&& BitVec.ofInt 64 b).toInt := by
  show IntKind.i64.wrap _ = _
  exact wrap_toInt _
theorem bnot (a b : Int) : bits .andNot .i64 a b = (BitVec.ofInt 64 a &&& ~~~ BitVec.ofInt 64 b).toInt := by
  show IntKind.i64.wrap _ = _
  exact wrap_toInt _
theorem ofto (x : BitVec 64) : BitVec.ofInt 64 x.toInt = x := BitVec.ofInt_toInt
theorem toof {a : Int} (h0 : -9223372036854775808 ≤ a) (h1 : a ≤ 9223372036854775807) : (BitVec.ofInt 64 a).toInt = a := by
  rw [BitVec.toInt_ofInt]
  exact Int.bmod_eq_of_le (by omega) (by omega)
theorem or_left {a b : Int} (h0 : -9223372036854775808 ≤ a) (h1 : a ≤ 9223372036854775807) : bits .and .i64 (bits .or .i64 a b) a = a := by
  rw [bor, band, ofto]
  have : (BitVec.ofInt 64 a ||| BitVec.ofInt 64 b) &&& BitVec.ofInt 64 a = BitVec.ofInt 64 a := by
    ext i hi
    simp only [BitVec.getElem_and, BitVec.getElem_or]
    cases (BitVec.ofInt 64 a)[i] <;> simp
  rw [this, toof h0 h1]
theorem or_right {a b : Int} (h0 : -9223372036854775808 ≤ b) (h1 : b ≤ 9223372036854775807) : bits .and .i64 (bits .or .i64 a b) b = b := by
  rw [bor, band, ofto]
  have : (BitVec.ofInt 64 a ||| BitVec.ofInt 64 b) &&& BitVec.ofInt 64 b = BitVec.ofInt 64 b := by
    ext i hi
    simp only [BitVec.getElem_and, BitVec.getElem_or]
    cases (BitVec.ofInt 64 b)[i] <;> simp
  rw [this, toof h0 h1]
theorem or_none (a b : Int) : bits .andNot .i64 (bits .or .i64 a b) (bits .or .i64 a b) = 0 := by
  rw [bnot]
  have : ∀ x : BitVec 64, x &&& ~~~ x = 0#64 := fun x => by
    ext i hi
    simp
  rw [this]; rfl
theorem and8 (q : Int) (m b : Nat) (hm : m < 8) (hb : b < 8) : bits .and .i64 (8 * q + m) b = ((m &&& b : Nat) : Int) := by
  rw [band, BitVec.toInt_eq_toNat_cond, BitVec.toNat_and]
  have e1 : (BitVec.ofInt 64 (b : Int)).toNat = b := by rw [BitVec.toNat_ofInt]; omega
  have e2 : (BitVec.ofInt 64 (8 * q + m)).toNat % 2 ^ 3 = m := by rw [BitVec.toNat_ofInt]; omega
  rw [e1]
  generalize (BitVec.ofInt 64 (8 * q + m)).toNat = n at *
  have l : n &&& b ≤ b := Nat.and_le_right
  have k : (n &&& b) % 2 ^ 3 = m &&& b := by
    rw [Nat.and_mod_two_pow, e2, Nat.mod_eq_of_lt (show b < 2 ^ 3 by omega)]
  have : n &&& b = m &&& b := by
    rw [← k]; omega
  rw [this]
  have : m &&& b ≤ b := Nat.and_le_right
  split <;> omega
theorem or8 (q : Int) (m b : Nat) (hm : m < 8) (hb : b < 8) (h0 : -9223372036854775808 ≤ 8 * q) (h1 : 8 * q + 7 ≤ 9223372036854775807) : bits .or .i64 (8 * q + m) b = 8 * q + ((m ||| b : Nat) : Int) := by
  rw [bor, BitVec.toInt_eq_toNat_cond, BitVec.toNat_or]
  have e1 : (BitVec.ofInt 64 (b : Int)).toNat = b := by rw [BitVec.toNat_ofInt]; omega
  have e3 : (((BitVec.ofInt 64 (8 * q + m)).toNat : Nat) : Int) = (8 * q + m) % 18446744073709551616 := by rw [BitVec.toNat_ofInt]; omega
  have e2 : (BitVec.ofInt 64 (8 * q + m)).toNat % 2 ^ 3 = m := by omega
  rw [e1]
  generalize (BitVec.ofInt 64 (8 * q + m)).toNat = n at *
  have k : (n ||| b) % 2 ^ 3 = m ||| b := by
    rw [Nat.or_mod_two_pow, e2, Nat.mod_eq_of_lt (show b < 2 ^ 3 by omega)]
  have k2 : (n ||| b) / 2 ^ 3 = n / 2 ^ 3 := by
    rw [Nat.or_div_two_pow, Nat.div_eq_of_lt (show b < 2 ^ 3 by omega), Nat.or_zero]
  have l : m ||| b < 2 ^ 3 := Nat.or_lt_two_pow (by omega) (by omega)
  generalize m ||| b = mb at *
  generalize n ||| b = nb at *
  split <;> omega
/-- one bit is told -/
def tell (X t b : Int) : Int := if decide (0 < bits .and .i64 X b) && (bits .and .i64 t b == 0) then IntKind.i64.wrap (t + b) else t
theorem tell8 (q : Int) (x m b : Nat) (hx : x < 8) (hm : m < 8) (hb : b < 8) (hs : m &&& b = 0 → m + b < 8) (h0 : -9223372036854775808 ≤ 8 * q) (h1 : 8 * q + 7 ≤ 9223372036854775807) :
    tell (x : Int) (8 * q + (m : Int)) (b : Int) = 8 * q + ((if 0 < x &&& b ∧ m &&& b = 0 then m + b else m : Nat) : Int) := by
  have e1 := and8 0 x b hx hb
  have e2 := and8 q m b hm hb
  rw [show 8 * (0 : Int) + (x : Int) = x by omega] at e1
  unfold tell
  rw [e1, e2]
  by_cases h : 0 < x &&& b ∧ m &&& b = 0
  · rw [if_pos h, if_pos (by simp; omega), IntKind.wrap_i64]
    have := hs h.2
    omega
  · rw [if_neg h, if_neg (by simp; omega)]
theorem tell_all (t X : Int) (h0 : -9223372036854775808 ≤ t) (h1 : t ≤ 9223372036854775807) (x0 : 0 ≤ X) (x8 : X < 8) : tell X (tell X (tell X t 1) 2) 4 = bits .or .i64 t X := by
  obtain ⟨q, m, hm, rfl⟩ : ∃ (q : Int) (m : Nat), m < 8 ∧ t = 8 * q + m := ⟨t / 8, (t % 8).toNat, by omega, by omega⟩
  obtain ⟨x, hx, rfl⟩ : ∃ x : Nat, x < 8 ∧ X = x := ⟨X.toNat, by omega, by omega⟩
  have g0 : -9223372036854775808 ≤ 8 * q := by omega
  have g1 : 8 * q + 7 ≤ 9223372036854775807 := by omega
  clear h0 h1 x0 x8
  rw [or8 q m x hm hx g0 g1]
  have f : ∀ m : Nat, m < 8 → ∀ x : Nat, x < 8 → (let a := if 0 < x &&& 1 ∧ m &&& 1 = 0 then m + 1 else m; let b := if 0 < x &&& 2 ∧ a &&& 2 = 0 then a + 2 else a; let c := if 0 < x &&& 4 ∧ b &&& 4 = 0 then b + 4 else b; a < 8 ∧ b < 8 ∧ c = m ||| x) := by decide
  have s1 : ∀ m : Nat, m < 8 → (m &&& 1 = 0 → m + 1 < 8) ∧ (m &&& 2 = 0 → m + 2 < 8) ∧ (m &&& 4 = 0 → m + 4 < 8) := by decide
  obtain ⟨fa, fb, fc⟩ := f m hm x hx
  rw [show ((1 : Int)) = ((1 : Nat) : Int) from rfl, show ((2 : Int)) = ((2 : Nat) : Int) from rfl, show ((4 : Int)) = ((4 : Nat) : Int) from rfl]
  rw [tell8 q x m 1 hx hm (by omega) (s1 m hm).1 g0 g1, tell8 q x _ 2 hx fa (by omega) (s1 _ fa).2.1 g0 g1, tell8 q x _ 4 hx fb (by omega) (s1 _ fb).2.2 g0 g1, fc]
end Go.Proofs.Ytcieglidghnidaa
