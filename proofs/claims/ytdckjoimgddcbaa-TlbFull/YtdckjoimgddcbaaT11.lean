/- Two lines in a store. -/
import Derived.Test.YtdckjoimgddcbaaT10
namespace Go.Proofs.Ytdckjoimgddcbaa
open Go.ChangeShapes Go.WideShapes Go.ChangeAt Go.RowKit Go.Maps
set_option linter.unusedSimpArgs false
set_option linter.unusedVariables false

def twoT (ia : Nat) (a : Ln) (ib : Nat) (b : Ln) : Nat → Ln := fun i => if i = ib then b else oneT ia a i
theorem two_fill (ia : Nat) (a b : Ln) (q : Nat) (hb : b.beats a = false) (i : Nat) (hi : i < 16) : fillT (oneT ia a) q b i = twoT ia a (2 * (b.p % 8).toNat + q) b i := by
  unfold fillT twoT
  rw [Int.toNat_natCast]
  by_cases c : i = 2 * (b.p % 8).toNat + q
  · simp only [if_pos c]
  · simp only [if_neg c]
    unfold dropT oneT
    rw [if_pos hi]
    by_cases d : i = ia
    · simp only [if_pos d, hb, Bool.false_eq_true, if_false]
    · simp only [if_neg d]
      split <;> rfl
theorem find_at (T : Nat → Ln) (tag p : Int) (hp : 0 ≤ p) (s : Nat) (hs : (p % 8).toNat = s) (y : Nat) (hy : y < 2) (m : Ln) (hm : T (2 * s + y) = m) (h1 : (T (2 * s + (1 - y))).fits tag p = false) :
    findT T tag p = if m.fits tag p then (m, true) else (Ln.zero, false) := by
  unfold findT
  rw [if_neg (by omega), hs]
  rcases (show y = 0 ∨ y = 1 by omega) with rfl | rfl
  · have e : T (2 * s) = m := hm
    have f : (T (2 * s + 1)).fits tag p = false := h1
    rw [e, f]
    cases m.fits tag p <;> simp
  · have e : T (2 * s + 1) = m := hm
    have f : (T (2 * s)).fits tag p = false := h1
    rw [e, f]
    cases m.fits tag p <;> simp
theorem fits_other (l : Ln) (tag page : Int) (h : l.p ≠ page) : l.fits tag page = false := by
  unfold Ln.fits
  have : (l.p == page) = false := by simp [h]
  rw [this]; simp
/-- every place but one has a line of another page, or none -/
theorem two_fits (ia : Nat) (a : Ln) (ib : Nat) (b : Ln) (tag page : Int) (i : Nat) (h1 : i = ib → b.p ≠ page) (h2 : i ≠ ib → i = ia → a.p ≠ page) : (twoT ia a ib b i).fits tag page = false := by
  unfold twoT oneT
  by_cases c : i = ib
  · simp only [if_pos c]; exact fits_other b tag page (h1 c)
  · simp only [if_neg c]
    by_cases d : i = ia
    · simp only [if_pos d]; exact fits_other a tag page (h2 c d)
    · simp only [if_neg d]; rfl
theorem two_lines (ia : Nat) (a : Ln) (ib : Nat) (b : Ln) : ∀ m, (linesT (twoT ia a ib b) m).length ≤ (if ia < m then 1 else 0) + (if ib < m then 1 else 0)
  | 0 => by simp [linesT]
  | m + 1 => by
    have ih := two_lines ia a ib b m
    simp only [linesT, List.length_append]
    by_cases c : m = ib
    · have : ((if (twoT ia a ib b m).v = true then [twoT ia a ib b m] else [] : List Ln)).length ≤ 1 := by split <;> simp
      subst c
      rw [if_neg (Nat.lt_irrefl _)] at ih
      rw [if_pos (Nat.lt_succ_self m)]
      have : (if ia < m then 1 else 0) ≤ (if ia < m + 1 then 1 else 0 : Nat) := by split <;> split <;> omega
      omega
    · by_cases d : m = ia
      · have : ((if (twoT ia a ib b m).v = true then [twoT ia a ib b m] else [] : List Ln)).length ≤ 1 := by split <;> simp
        subst d
        rw [if_neg (Nat.lt_irrefl _)] at ih
        rw [if_pos (Nat.lt_succ_self m)]
        have : (if ib < m then 1 else 0) ≤ (if ib < m + 1 then 1 else 0 : Nat) := by split <;> split <;> omega
        omega
      · have e : twoT ia a ib b m = Ln.zero := by unfold twoT oneT; simp only [if_neg c, if_neg d]
        rw [e]
        have h1 : (if ia < m then 1 else 0) ≤ (if ia < m + 1 then 1 else 0 : Nat) := by split <;> split <;> omega
        have h2 : (if ib < m then 1 else 0) ≤ (if ib < m + 1 then 1 else 0 : Nat) := by split <;> split <;> omega
        have : ((if Ln.zero.v = true then [Ln.zero] else [] : List Ln)).length = 0 := rfl
        omega
theorem two_len (ia : Nat) (a : Ln) (ib : Nat) (b : Ln) : (linesT (twoT ia a ib b) 16).length ≤ 2 := by
  have := two_lines ia a ib b 16
  split at this <;> split at this <;> omega
end Go.Proofs.Ytdckjoimgddcbaa
