/- Boot maps: numbers of bytes. -/
import Derived.Test.YtpfcpmhpekidkaaO1
namespace Go.Proofs.Ytpfcpmhpekidkaa.Bm
open Go.ChangeShapes Go.WideShapes Go.ChangeAt Go.RowKit Go.Maps
set_option linter.unusedSimpArgs false
set_option linter.unusedVariables false
set_option maxRecDepth 8000

theorem or_at (k : Nat) (X v : Int) (x0 : 0 ≤ X) (x1 : X < 2 ^ k) (v0 : 0 ≤ v) (hb : v * 2 ^ k ≤ 18446744073709551616 - 2 ^ k) : bits .or .u64 X (v * 2 ^ k) = X + v * 2 ^ k := by
  have hp : (0 : Int) < 2 ^ k := Int.pow_pos (by omega)
  have hm : 0 ≤ v * 2 ^ k := Int.mul_nonneg v0 (by omega)
  rw [u64_or _ _ (by omega) (by omega) (by omega) (by omega), Nat.or_comm]
  have e : (v * 2 ^ k).toNat = v.toNat * 2 ^ k := by
    rw [← Int.toNat_natCast (v.toNat * 2 ^ k), Int.natCast_mul, Int.natCast_pow, Int.toNat_of_nonneg v0]; rfl
  rw [nat_join k (v * 2 ^ k).toNat X.toNat (by rw [e, Nat.mul_mod_left]) (by
    have : ((2 ^ k : Nat) : Int) = 2 ^ k := by rw [Int.natCast_pow]; rfl
    omega)]
  omega
theorem pow256 (n : Nat) : (2 : Int) ^ (8 * n) = 256 ^ n := by rw [Int.pow_mul]; rfl
theorem or_byte (X v j : Int) (j0 : 0 ≤ j) (j8 : j < 8) (x0 : 0 ≤ X) (x1 : X < 256 ^ j.toNat) (v0 : 0 ≤ v) (v1 : v < 256) :
    bits .or .u64 X (IntKind.u64.wrap (v * 2 ^ (8 * j).toNat)) = X + v * 256 ^ j.toNat ∧ IntKind.u64.wrap (X + IntKind.u64.wrap (v * 2 ^ (8 * j).toNat)) = X + v * 256 ^ j.toNat := by
  rw [show (8 * j).toNat = 8 * j.toNat by omega, pow256]
  rcases (show j = 0 ∨ j = 1 ∨ j = 2 ∨ j = 3 ∨ j = 4 ∨ j = 5 ∨ j = 6 ∨ j = 7 by omega) with rfl | rfl | rfl | rfl | rfl | rfl | rfl | rfl
  all_goals
    simp only [Int.reduceToNat, Int.reducePow, Int.mul_one] at *
    rw [IntKind.wrap_u64, Int.emod_eq_of_lt (by omega) (by omega)]
    refine ⟨?_, by rw [IntKind.wrap_u64, Int.emod_eq_of_lt (by omega) (by omega)]⟩
  · have h := or_at 0 X v (by omega) (by omega) v0 (by omega)
    rw [Int.pow_zero, Int.mul_one] at h; exact h
  · exact or_at 8 X v (by omega) (by omega) v0 (by omega)
  · exact or_at 16 X v (by omega) (by omega) v0 (by omega)
  · exact or_at 24 X v (by omega) (by omega) v0 (by omega)
  · exact or_at 32 X v (by omega) (by omega) v0 (by omega)
  · exact or_at 40 X v (by omega) (by omega) v0 (by omega)
  · exact or_at 48 X v (by omega) (by omega) v0 (by omega)
  · exact or_at 56 X v (by omega) (by omega) v0 (by omega)
/-- the number of n bytes -/
def le (c : Nat → Int) (at_ : Nat) : Nat → Int
  | 0 => 0
  | i + 1 => le c at_ i + c (at_ + i) * 256 ^ i
theorem le_bd {c : Nat → Int} (hc : ∀ i, 0 ≤ c i ∧ c i < 256) (a : Nat) : ∀ n, 0 ≤ le c a n ∧ le c a n < 256 ^ n
  | 0 => by simp [le]
  | n + 1 => by
    have h := le_bd hc a n
    have h2 := hc (a + n)
    simp only [le]
    have hp : (0 : Int) < 256 ^ n := Int.pow_pos (by omega)
    have h3 : 0 ≤ c (a + n) * 256 ^ n := Int.mul_nonneg h2.1 (by omega)
    have h4 : c (a + n) * 256 ^ n ≤ 255 * 256 ^ n := Int.mul_le_mul_of_nonneg_right (by omega) (by omega)
    rw [Int.pow_succ]
    omega
set_option maxHeartbeats 400000 in
theorem number_any (g o n c a : Nat) (B : Nat → Int) (hB : ∀ i, 0 ≤ B i ∧ B i < 256) (hn : n ≤ 8) (w : World) (hc : ∀ i, i < n → w.cell? ⟨g, o + i, none⟩ = some (.int .u8 (B (a + i)))) :
    Calls Try.prog 62 #[.slice (some ⟨g, o, none⟩) n c] w fun e w' => e = .returned (.int .u64 (le B a n)) ∧ w' = w := by
  have HC : Hid (∀ i, i < n → w.cell? ⟨g, o + i, none⟩ = some (.int .u8 (B (a + i)))) := hc
  have HB : Hid (∀ i, 0 ≤ B i ∧ B i < 256) := hB
  clear hc hB
  go_enter Try.func62, Try.ntmps62
  go_wp2
  go_loop [3, 8] (fun x i => ∃ j : Int, 0 ≤ j ∧ j ≤ n ∧ i = .int .i64 j ∧ x = .int .u64 (le B a j.toNat)) (fun _ i => ((n : Int) - intOf i).toNat)
  case atStart => exact ⟨0, by omega, by omega, rfl, rfl⟩
  case round =>
    obtain ⟨j, j0, j1, rfl, rfl⟩ := hrel
    by_cases cj : j < n
    · obtain ⟨X, hX⟩ : ∃ X : Int, le B a j.toNat = X := ⟨_, rfl⟩
      rw [hX]
      obtain ⟨v, hv⟩ : ∃ v : Int, B (a + j.toNat) = v := ⟨_, rfl⟩
      have hcell : w.cell? ⟨g, o + j.toNat, none⟩ = some (.int .u8 v) := by rw [← hv]; exact HC.out _ (by omega)
      have hvb : 0 ≤ v ∧ v < 256 := by rw [← hv]; exact HB.out _
      obtain ⟨v0, v1⟩ := hvb
      have hnext : le B a (j + 1).toNat = X + v * 256 ^ j.toNat := by
        rw [show (j + 1).toNat = j.toNat + 1 by omega]
        simp only [le]
        rw [hX, hv]
      have hXb := le_bd HB.out a j.toNat
      rw [hX] at hXb
      have HN : Hid (le B a (j + 1).toNat = X + v * 256 ^ j.toNat ∧ 0 ≤ X ∧ X < 256 ^ j.toNat) := ⟨hnext, hXb.1, hXb.2⟩
      have hor := (or_byte X v j j0 (by omega) HN.out.2.1 HN.out.2.2 v0 v1).1
      have d1 : decide (j < (n : Int)) = true := by simp [cj]
      clear hXb hX hv hnext
      go_wp2
      go_round
      case rel => exact ⟨j + 1, by omega, by omega, rfl, by rw [HN.out.1]⟩
      case measure => simp [intOf]; omega
    · have e : j = n := by omega
      subst e
      have d1 : decide ((n : Int) < (n : Int)) = false := by simp
      go_wp2
      go_ret
      exact ⟨rfl, rfl⟩
end Go.Proofs.Ytpfcpmhpekidkaa.Bm
