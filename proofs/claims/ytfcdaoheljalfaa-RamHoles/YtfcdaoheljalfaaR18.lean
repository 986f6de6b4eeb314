/- What a number leaves in a frame that was empty, and what a copy of that frame holds. -/
import Derived.Test.YtfcdaoheljalfaaR17
namespace Go.Proofs.Ytfcdaoheljalfaa
open Go.ChangeShapes Go.WideShapes Go.ChangeAt Go.RowKit Go.Maps
set_option linter.unusedSimpArgs false
set_option linter.unusedVariables false

theorem ld_same {M M' : Int → Int} {a b : Int} : ∀ {n : Nat}, (∀ i : Nat, i < n → M' (a + i) = M (b + i)) → ld M' a n = ld M b n
  | 0, _ => rfl
  | n + 1, h => by
    simp only [ld]
    rw [ld_same (n := n) (fun i hi => h i (by omega)), h n (by omega)]
theorem byte_none {x : Int} {m j : Nat} (h : x % 256 ^ m = 0) (hj : j < m) : x / 256 ^ j % 256 = 0 := by
  have hd : (256 : Int) ^ (j + 1) ∣ x := Int.dvd_trans ⟨256 ^ (m - (j + 1)), by rw [← Int.pow_add, show j + 1 + (m - (j + 1)) = m by omega]⟩ (Int.dvd_of_emod_eq_zero h)
  obtain ⟨k, rfl⟩ := hd
  have hp : (256 : Int) ^ j ≠ 0 := Int.pow_ne_zero (by decide)
  rw [Int.pow_succ, Int.mul_assoc, Int.mul_ediv_cancel_left _ hp]
  omega
theorem clr_mset {a x : Int} {m : Nat} (x0 : 0 ≤ x) (h0 : 0 ≤ a) (h1 : a + m ≤ 4096) : clr (mset (fun _ => 0) a m x) 0 = (x % 256 ^ m == 0) := by
  unfold clr
  rw [Bool.eq_iff_iff, decide_eq_true_iff, beq_iff_eq]
  constructor
  · intro h
    rw [← ld_mset_low (fun _ => 0) a m x x0 m (Int.le_refl _)]
    refine ld_zero (fun i hi => ?_)
    have := h (a.toNat + i) (by omega)
    rw [show (0 : Int) * 4096 + ((a.toNat + i : Nat) : Int) = a + i by omega] at this
    exact this
  · intro h i hi
    unfold mset
    split
    · exact byte_none h (by omega)
    · rfl
theorem ld_copied {M : Int → Int} {a : Int} {d : Nat} (h0 : 0 ≤ a) (h1 : a + d ≤ 4096) : ld (mcopy M 2 0) (8192 + a) d = ld M a d :=
  ld_same (fun i hi => by unfold mcopy; rw [if_pos (by omega), show (8192 : Int) + a + i - 2 * 4096 + 0 * 4096 = a + i by omega])
theorem ld_kept {M : Int → Int} {a y : Int} {d : Nat} (h0 : 0 ≤ a) : ld (mzero (mset M 0 8 y) 0) (8192 + a) d = ld M (8192 + a) d :=
  ld_same (fun i hi => by unfold mzero mset; rw [if_neg (by omega), if_neg (by omega)])
end Go.Proofs.Ytfcdaoheljalfaa
