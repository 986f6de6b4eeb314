/- The contracts of the document's own functions of layer 3. -/
import Derived.Test.YtnjoiknfaibheaaDoorP6
import Derived.Test.YtnjoiknfaibheaaDoorP7
import Derived.Laws.ShiftsVar
namespace Go.Proofs.YtnjoiknfaibheaaDoor
open Go.ChangeShapes Go.WideShapes Go.ChangeAt Go.RowKit
set_option linter.unusedSimpArgs false
set_option linter.unusedVariables false

theorem div_nn (x : Int) (x0 : 0 ≤ x) (k : Nat) : 0 ≤ x / 2 ^ k := Int.ediv_nonneg x0 (Int.le_of_lt (Int.pow_pos (by omega)))
set_option maxHeartbeats 400000 in
theorem bit_any (x i : Int) (x0 : 0 ≤ x) (x1 : x < 18446744073709551616) (i0 : 0 ≤ i) (i1 : i < 64) (w : World) :
    Calls Tryd.prog 23 #[.int .u64 x, .int .i64 i] w fun e w' => e = .returned (.bool (bt (x / 2 ^ i.toNat))) ∧ w' = w := by
  go_enter Tryd.func23, Tryd.ntmps23
  go_wp2
  go_ret
  refine ⟨?_, rfl⟩
  show Ending.returned (Value.bool ((x / 2 ^ i.toNat).tmod 2 == 1)) = _
  rw [Int.tmod_eq_emod_of_nonneg (div_nn x x0 _)]; rfl
theorem bit_c (x : Int) (x0 : 0 ≤ x) (x1 : x < 18446744073709551616) : Hid (∀ (i : Int) (i0 : 0 ≤ i) (i1 : i < 64) (w : World), Calls Tryd.prog 23 #[.int .u64 x, .int .i64 i] w fun e w' => e = .returned (.bool (bt (x / 2 ^ i.toNat))) ∧ w' = w) :=
  fun i i0 i1 w => bit_any x i x0 x1 i0 i1 w

/-- bits from a on, n of them -/
theorem mod_succ (z : Int) (z0 : 0 ≤ z) (n : Nat) : z % 2 ^ (n + 1) = z % 2 ^ n + z / 2 ^ n % 2 * 2 ^ n := by
  obtain ⟨m, rfl⟩ := Int.eq_ofNat_of_zero_le z0
  have h := Nat.mod_pow_succ (x := m) (b := 2) (k := n)
  have e : ∀ k : Nat, ((2 : Int) ^ k) = ((2 ^ k : Nat) : Int) := fun k => by rw [Int.natCast_pow]; rfl
  rw [e, e, ← Int.natCast_emod, ← Int.natCast_emod, ← Int.natCast_ediv]
  have h2 : ((m / 2 ^ n : Nat) : Int) % 2 = ((m / 2 ^ n % 2 : Nat) : Int) := rfl
  rw [h2, ← Int.natCast_mul, ← Int.natCast_add, h, Nat.mul_comm]
theorem mod_double (z : Int) (z0 : 0 ≤ z) (n : Nat) : z % 2 ^ (n + 1) = 2 * (z / 2 % 2 ^ n) + z % 2 := by
  obtain ⟨m, rfl⟩ := Int.eq_ofNat_of_zero_le z0
  have e : ∀ k : Nat, ((2 : Int) ^ k) = ((2 ^ k : Nat) : Int) := fun k => by rw [Int.natCast_pow]; rfl
  have h : m % 2 ^ (n + 1) = 2 * (m / 2 % 2 ^ n) + m % 2 := by
    rw [Nat.pow_succ, Nat.mul_comm (2 ^ n) 2, Nat.mod_mul]; omega
  rw [e, e]
  have h2 : ((m : Int) / 2) = ((m / 2 : Nat) : Int) := rfl
  rw [h2, ← Int.natCast_emod, ← Int.natCast_emod, h]
  have h3 : ((m : Int) % 2) = ((m % 2 : Nat) : Int) := rfl
  rw [h3]; omega
theorem div_succ (x : Int) (k : Nat) : x / 2 ^ (k + 1) = x / 2 ^ k / 2 := by
  rw [Int.pow_succ, Int.ediv_ediv_of_nonneg (Int.le_of_lt (Int.pow_pos (by omega)))]
theorem div_add (x : Int) (a b : Nat) : x / 2 ^ (a + b) = x / 2 ^ a / 2 ^ b := by
  rw [Int.pow_add, Int.ediv_ediv_of_nonneg (Int.le_of_lt (Int.pow_pos (by omega)))]
theorem pow_le2 {m n : Nat} (h : m ≤ n) : (2 : Int) ^ m ≤ 2 ^ n := by
  have := Nat.pow_le_pow_right (n := 2) (by omega) h
  have e : ∀ k : Nat, ((2 : Int) ^ k) = ((2 ^ k : Nat) : Int) := fun k => by rw [Int.natCast_pow]; rfl
  rw [e, e]; omega
theorem bt_cases (z : Int) : (bt z = true ∧ z % 2 = 1) ∨ (bt z = false ∧ z % 2 = 0) := by
  unfold bt
  rcases (show z % 2 = 0 ∨ z % 2 = 1 by omega) with h | h <;> rw [h] <;> simp

set_option maxHeartbeats 1000000 in
theorem part_any (x : Int) (x0 : 0 ≤ x) (x1 : x < 18446744073709551616) (f : Nat) (n : Nat) (hn : f + n ≤ 64) (n12 : n ≤ 12) (w : World) :
    Calls Tryd.prog 20 #[.int .u64 x, .int .i64 f, .int .i64 n] w fun e w' => e = .returned (.int .i64 (x / 2 ^ f % 2 ^ n)) ∧ w' = w := by
  have B := bit_c x x0 x1
  go_enter Tryd.func20, Tryd.ntmps20
  go_wp2_with fail
  go_loop [7, 8] (fun y i => ∃ j : Nat, j ≤ n ∧ i = .int .i64 ((j : Int) - 1) ∧ y = .int .i64 (x / 2 ^ (f + j) % 2 ^ (n - j))) (fun _ i => (intOf i + 1).toNat)
  case atStart => exact ⟨n, Nat.le_refl _, rfl, by rw [Nat.sub_self, Int.pow_zero, Int.emod_one]⟩
  case round =>
    obtain ⟨j, hj, rfl, rfl⟩ := hrel
    obtain ⟨Y, hY⟩ : ∃ Y, x / 2 ^ (f + j) % 2 ^ (n - j) = Y := ⟨_, rfl⟩
    have hp : (0 : Int) < 2 ^ (n - j) := Int.pow_pos (by omega)
    have hp2 : (2 : Int) ^ (n - j) ≤ 2 ^ 12 := pow_le2 (by omega)
    have Y0 : 0 ≤ Y := by rw [← hY]; exact Int.emod_nonneg _ (by omega)
    have Y1 : Y < 4096 := by
      have := Int.emod_lt_of_pos (x / 2 ^ (f + j)) hp
      rw [hY] at this
      have e : (2 : Int) ^ 12 = 4096 := by decide
      omega
    rw [hY]
    by_cases h0 : j = 0
    · subst h0
      have HY : Hid (x / 2 ^ f % 2 ^ n = Y) := hY
      clear hY hp hp2
      go_wp2_with fail
      go_ret
      exact ⟨by rw [HY.out]; rfl, rfl⟩
    · obtain ⟨m, rfl⟩ : ∃ m, j = m + 1 := ⟨j - 1, by omega⟩
      have hz := div_nn x x0 (f + m)
      have e1 : x / 2 ^ (f + m) % 2 ^ (n - m) = 2 * Y + x / 2 ^ (f + m) % 2 := by
        rw [show n - m = (n - (m + 1)) + 1 by omega, mod_double _ hz, ← div_succ, ← hY]; rfl
      have ej : (((m + 1 : Nat) : Int) - 1) = (m : Int) := by omega
      have et : ((f : Int) + (m : Int)).toNat = f + m := by omega
      rw [ej]
      have Bm := B.out ((f : Int) + (m : Int)) (by omega) (by omega)
      rw [et] at Bm
      have hm : m < n := by omega
      have hb := bt_cases (x / 2 ^ (f + m))
      clear hY hp hp2 B h0 ej et hz hj
      rcases hb with ⟨hb1, hb2⟩ | ⟨hb1, hb2⟩
      · have E1 : Hid (x / 2 ^ (f + m) % 2 ^ (n - m) = 2 * Y + 1) := by rw [hb2] at e1; exact e1
        rw [hb1] at Bm
        have Bh : Hid (∀ w : World, Calls Tryd.prog 23 #[.int .u64 x, .int .i64 ((f : Int) + (m : Int))] w fun e w' => e = .returned (.bool true) ∧ w' = w) := Bm
        clear e1 hb1 hb2 Bm
        go_wp2_with fail
        refine (Bh.out _).mono ?_
        rintro e w1 ⟨rfl, rfl⟩
        go_wp2_with fail
        go_round
        case rel => exact ⟨m, by omega, rfl, by rw [E1.out]⟩
        case measure => simp [intOf]
      · have E1 : Hid (x / 2 ^ (f + m) % 2 ^ (n - m) = 2 * Y) := by rw [hb2, Int.add_zero] at e1; exact e1
        rw [hb1] at Bm
        have Bh : Hid (∀ w : World, Calls Tryd.prog 23 #[.int .u64 x, .int .i64 ((f : Int) + (m : Int))] w fun e w' => e = .returned (.bool false) ∧ w' = w) := Bm
        clear e1 hb1 hb2 Bm
        go_wp2_with fail
        refine (Bh.out _).mono ?_
        rintro e w1 ⟨rfl, rfl⟩
        go_wp2_with fail
        go_round
        case rel => exact ⟨m, by omega, rfl, by rw [E1.out]⟩
        case measure => simp [intOf]
end Go.Proofs.YtnjoiknfaibheaaDoor
