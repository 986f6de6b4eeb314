/- The contract of ram's read. -/
import Derived.Test.YtkiclbnbnjbcaabDoorR2
namespace Go.Proofs.YtkiclbnbnjbcaabDoor
open Go.ChangeShapes Go.WideShapes Go.ChangeAt Go.RowKit Go.Maps
set_option linter.unusedSimpArgs false
set_option linter.unusedVariables false
set_option maxRecDepth 8000

theorem or_at (k : Nat) (X v : Int) (x0 : 0 ≤ X) (x1 : X < 2 ^ k) (v0 : 0 ≤ v) (hb : v * 2 ^ k ≤ 18446744073709551616 - 2 ^ k) : bits .or .u64 X (v * 2 ^ k) = X + v * 2 ^ k := by
  have hp : (0 : Int) < 2 ^ k := Int.pow_pos (by omega)
  have hm : 0 ≤ v * 2 ^ k := Int.mul_nonneg v0 (by omega)
  rw [u64_or _ _ (by omega) (by omega) (by omega) (by omega), Nat.or_comm]
  have e : (v * 2 ^ k).toNat = v.toNat * 2 ^ k := by
    rw [← Int.toNat_natCast (v.toNat * 2 ^ k), Int.natCast_mul, Int.natCast_pow, Int.toNat_of_nonneg v0]; rfl
  rw [nat_join k (v * 2 ^ k).toNat X.toNat (by rw [e, Nat.mul_mod_left]) (by
    have : ((2 ^ k : Nat) : Int) = 2 ^ k := by rw [Int.natCast_pow]; rfl
    omega)]
  omega
theorem pow256 (n : Nat) : (2 : Int) ^ (8 * n) = 256 ^ n := by rw [Int.pow_mul]; rfl
theorem or_byte (X v j : Int) (j0 : 0 ≤ j) (j8 : j < 8) (x0 : 0 ≤ X) (x1 : X < 256 ^ j.toNat) (v0 : 0 ≤ v) (v1 : v < 256) :
    bits .or .u64 X (IntKind.u64.wrap (v * 2 ^ (8 * j).toNat)) = X + v * 256 ^ j.toNat := by
  rw [show (8 * j).toNat = 8 * j.toNat by omega, pow256]
  rcases (show j = 0 ∨ j = 1 ∨ j = 2 ∨ j = 3 ∨ j = 4 ∨ j = 5 ∨ j = 6 ∨ j = 7 by omega) with rfl | rfl | rfl | rfl | rfl | rfl | rfl | rfl
  all_goals
    simp only [Int.reduceToNat, Int.reducePow, Int.mul_one] at *
    rw [IntKind.wrap_u64, Int.emod_eq_of_lt (by omega) (by omega)]
  · have h := or_at 0 X v (by omega) (by omega) v0 (by omega)
    rw [Int.pow_zero, Int.mul_one] at h; exact h
  · exact or_at 8 X v (by omega) (by omega) v0 (by omega)
  · exact or_at 16 X v (by omega) (by omega) v0 (by omega)
  · exact or_at 24 X v (by omega) (by omega) v0 (by omega)
  · exact or_at 32 X v (by omega) (by omega) v0 (by omega)
  · exact or_at 40 X v (by omega) (by omega) v0 (by omega)
  · exact or_at 48 X v (by omega) (by omega) v0 (by omega)
  · exact or_at 56 X v (by omega) (by omega) v0 (by omega)

set_option maxHeartbeats 400000 in
theorem read_none (rb mb n : Nat) (pg : Int → Option Nat) (k a m : Int) (w : World) (k0 : -9223372036854775808 ≤ k) (k1 : k ≤ 9223372036854775807)
    (c2 : w.cell? ⟨rb, 2, none⟩ = some (.map (some mb))) (hm : Mem w mb n pg) (hp : pg k = none) :
    Calls Tryd.prog 74 #[.pointer (some ⟨rb, 0, none⟩), .int .i64 k, .int .i64 a, .int .i64 m] w fun e w' => e = .returned (.int .u64 0) ∧ w' = w := by
  have hl := hm.look k0 k1
  rw [hp] at hl
  have hl' : (Instr.lookup 97 (.map (some mb)) (.int .i64 k) false).run Tryd.prog w = .ok (.pointer none) w := hl
  clear hl hp hm
  go_enter Tryd.func74, Tryd.ntmps74
  go_wp2
  go_ret
  exact ⟨rfl, rfl⟩

set_option maxHeartbeats 400000 in
theorem read_some (rb mb n b : Nat) (pg : Int → Option Nat) (c : Nat → Int) (k a m : Int) (w : World) (k0 : -9223372036854775808 ≤ k) (k1 : k ≤ 9223372036854775807)
    (c2 : w.cell? ⟨rb, 2, none⟩ = some (.map (some mb))) (hm : Mem w mb n pg) (hp : pg k = some b) (hc : ∀ i, 0 ≤ c i ∧ c i < 256)
    (hpage : ∀ i, i < 4096 → w.cell? ⟨b, i, none⟩ = some (.int .u8 (c i))) (a0 : 0 ≤ a) (m0 : 0 ≤ m) (m8 : m ≤ 8) (am : a + m ≤ 4096) :
    Calls Tryd.prog 74 #[.pointer (some ⟨rb, 0, none⟩), .int .i64 k, .int .i64 a, .int .i64 m] w fun e w' => e = .returned (.int .u64 (le c a.toNat m.toNat)) ∧ w' = w := by
  have hl := hm.look k0 k1
  rw [hp] at hl
  have hl' : (Instr.lookup 97 (.map (some mb)) (.int .i64 k) false).run Tryd.prog w = .ok (.pointer (some ⟨b, 0, none⟩)) w := hl
  clear hl hp hm
  go_enter Tryd.func74, Tryd.ntmps74
  go_wp2
  go_loop [10, 21] (fun x i => ∃ j : Int, 0 ≤ j ∧ j ≤ m ∧ i = .int .i64 j ∧ x = .int .u64 (le c a.toNat j.toNat)) (fun _ i => (m - intOf i).toNat)
  case atStart => exact ⟨0, by omega, by omega, rfl, rfl⟩
  case round =>
    obtain ⟨j, j0, j1, rfl, rfl⟩ := hrel
    by_cases cj : j < m
    · obtain ⟨X, hX⟩ : ∃ X : Int, le c a.toNat j.toNat = X := ⟨_, rfl⟩
      rw [hX]
      obtain ⟨v, hv⟩ : ∃ v : Int, c (a + j).toNat = v := ⟨_, rfl⟩
      have hcell : w.cell? ⟨b, (a + j).toNat, none⟩ = some (.int .u8 v) := by rw [← hv]; exact hpage _ (by omega)
      have hvb : 0 ≤ v ∧ v < 256 := by rw [← hv]; exact hc _
      obtain ⟨v0, v1⟩ := hvb
      have hnext : le c a.toNat (j + 1).toNat = X + v * 256 ^ j.toNat := by
        rw [show (j + 1).toNat = j.toNat + 1 by omega]
        simp only [le]
        rw [hX, show a.toNat + j.toNat = (a + j).toNat by omega, hv]
      have hXb := le_bd hc a.toNat j.toNat
      rw [hX] at hXb
      have HN : Hid (le c a.toNat (j + 1).toNat = X + v * 256 ^ j.toNat ∧ 0 ≤ X ∧ X < 256 ^ j.toNat) := ⟨hnext, hXb.1, hXb.2⟩
      have hpow : (2 : Int) ^ (8 * j).toNat = 256 ^ j.toNat := by
        rw [show (8 * j).toNat = 8 * j.toNat by omega, Int.pow_mul]; rfl
      have hor : bits .or .u64 X (IntKind.u64.wrap (v * 2 ^ (8 * j).toNat)) = X + v * 256 ^ j.toNat := or_byte X v j j0 (by omega) HN.out.2.1 HN.out.2.2 v0 v1
      clear hpage hc hXb hX hv hnext hpow
      go_wp2
      go_round
      case rel => exact ⟨j + 1, by omega, by omega, rfl, by rw [HN.out.1]⟩
      case measure => simp [intOf]; omega
    · have e : j = m := by omega
      subst e
      go_wp2
      go_ret
      exact ⟨rfl, rfl⟩
end Go.Proofs.YtkiclbnbnjbcaabDoor
