/- A store that is filled place by place. -/
import Derived.Test.YtdckjoimgddcbaaT11
namespace Go.Proofs.Ytdckjoimgddcbaa
open Go.ChangeShapes Go.WideShapes Go.ChangeAt Go.RowKit Go.Maps
set_option linter.unusedSimpArgs false
set_option linter.unusedVariables false

def lnP (tag : Int) (p f : Int) : Ln := ⟨true, tag, p, f, false, false, false, false, false⟩
def pgN (i : Nat) : Nat := i / 2 + 8 * (i % 2)
def fullT (tag : Int) (k : Nat) : Nat → Ln := fun i => if pgN i < k then lnP tag (pgN i) (pgN i) else Ln.zero
theorem full_zero (tag : Int) (i : Nat) : fullT tag 0 i = T0 i := by unfold fullT T0; rw [if_neg (by omega)]
theorem full_step (tag : Int) (k : Nat) (hk : k < 16) (i : Nat) (hi : i < 16) : fillT (fullT tag k) ((k / 8 : Nat) : Int) (lnP tag k k) i = fullT tag (k + 1) i := by
  have e1 : (((lnP tag k k).p % 8).toNat) = k % 8 := by show ((k : Int) % 8).toNat = _; omega
  unfold fillT
  rw [e1, Int.toNat_natCast]
  by_cases c : i = 2 * (k % 8) + k / 8
  · have hp : pgN i = k := by unfold pgN; omega
    simp only [if_pos c]
    unfold fullT
    rw [hp, if_pos (by omega)]
  · have hp : pgN i ≠ k := by unfold pgN; omega
    simp only [if_neg c]
    unfold dropT
    rw [if_pos hi]
    by_cases d : pgN i < k
    · have h1 : fullT tag k i = lnP tag (pgN i) (pgN i) := by unfold fullT; rw [if_pos d]
      have h2 : (lnP tag k k).beats (lnP tag (pgN i) (pgN i)) = false := by
        have : ((pgN i : Int) == (k : Int)) = false := by simp; omega
        simp [Ln.beats, Ln.fits, lnP, this]
      have h3 : fullT tag (k + 1) i = lnP tag (pgN i) (pgN i) := by unfold fullT; rw [if_pos (by omega)]
      rw [h1, h2, h3]
      simp
    · have h1 : fullT tag k i = Ln.zero := by unfold fullT; rw [if_neg d]
      have h3 : fullT tag (k + 1) i = Ln.zero := by unfold fullT; rw [if_neg (by omega)]
      rw [h1, h3]
      split <;> rfl
theorem full_len (tag : Int) (k : Nat) (hk : k ≤ 16) : (linesT (fullT tag k) 16).length = k := by
  rcases (show k = 0 ∨ k = 1 ∨ k = 2 ∨ k = 3 ∨ k = 4 ∨ k = 5 ∨ k = 6 ∨ k = 7 ∨ k = 8 ∨ k = 9 ∨ k = 10 ∨ k = 11 ∨ k = 12 ∨ k = 13 ∨ k = 14 ∨ k = 15 ∨ k = 16 by omega) with rfl | rfl | rfl | rfl | rfl | rfl | rfl | rfl | rfl | rfl | rfl | rfl | rfl | rfl | rfl | rfl | rfl <;> kernel_rfl
/-- full, and one more line that drove another one out -/
def moreT (tag : Int) (i1 : Nat) (m : Ln) : Nat → Ln := fun i => if i = i1 then m else fullT tag 16 i
theorem more_fill (tag more : Int) (hm : 16 ≤ more) (y : Nat) (i : Nat) (hi : i < 16) : fillT (fullT tag 16) (y : Int) (lnP tag more 77) i = moreT tag (2 * (more % 8).toNat + y) (lnP tag more 77) i := by
  unfold fillT moreT
  rw [Int.toNat_natCast]
  show (if i = 2 * (more % 8).toNat + y then _ else _) = _
  by_cases c : i = 2 * (more % 8).toNat + y
  · simp only [if_pos c]
  · simp only [if_neg c]
    unfold dropT
    rw [if_pos hi]
    have hp : pgN i < 16 := by unfold pgN; omega
    have h1 : fullT tag 16 i = lnP tag (pgN i) (pgN i) := by unfold fullT; rw [if_pos hp]
    have h2 : (lnP tag more 77).beats (lnP tag (pgN i) (pgN i)) = false := by
      have : ((pgN i : Int) == more) = false := by simp; omega
      simp [Ln.beats, Ln.fits, lnP, this]
    rw [h1, h2]
    simp
theorem lines_all (T : Nat → Ln) : ∀ m, (∀ i, i < m → (T i).v = true) → (linesT T m).length = m
  | 0, _ => rfl
  | m + 1, h => by
    rw [lines_yes T m (h m (by omega)), List.length_append, lines_all T m (fun i hi => h i (by omega))]; rfl
theorem more_len (tag more : Int) (i1 : Nat) : (linesT (moreT tag i1 (lnP tag more 77)) 16).length = 16 := lines_all _ 16 (fun i hi => by
  have hp : pgN i < 16 := by unfold pgN; omega
  unfold moreT fullT
  split
  · rfl
  · first | rfl | (rw [if_pos hp]; rfl))
/-- what is found of the page k of a full store to which one more came -/
theorem more_find (tag more : Int) (hm : 16 ≤ more) (y : Nat) (hy : y < 2) (k : Nat) (hk : k < 16) : (findT (moreT tag (2 * (more % 8).toNat + y) (lnP tag more 77)) tag (k : Int)).2 = !(decide ((more % 8).toNat + 8 * y = k)) := by
  have e : (((k : Int) % 8).toNat) = k % 8 := by omega
  have other : (moreT tag (2 * (more % 8).toNat + y) (lnP tag more 77) (2 * (k % 8) + (1 - k / 8))).fits tag (k : Int) = false := by
    unfold moreT
    split
    · exact fits_other _ _ _ (by show more ≠ _; omega)
    · have hp : pgN (2 * (k % 8) + (1 - k / 8)) < 16 := by unfold pgN; omega
      unfold fullT
      rw [if_pos hp]
      exact fits_other _ _ _ (by show ((pgN (2 * (k % 8) + (1 - k / 8)) : Nat) : Int) ≠ _; unfold pgN; omega)
  rw [find_at _ tag (k : Int) (by omega) (k % 8) e (k / 8) (by omega) _ rfl other]
  by_cases c : (more % 8).toNat + 8 * y = k
  · have h1 : moreT tag (2 * (more % 8).toNat + y) (lnP tag more 77) (2 * (k % 8) + k / 8) = lnP tag more 77 := by unfold moreT; rw [if_pos (by omega)]
    rw [h1, fits_other _ _ _ (by show more ≠ _; omega)]
    simp [c]
  · have hp : pgN (2 * (k % 8) + k / 8) = k := by unfold pgN; omega
    have h1 : moreT tag (2 * (more % 8).toNat + y) (lnP tag more 77) (2 * (k % 8) + k / 8) = lnP tag k k := by
      unfold moreT fullT; rw [if_neg (by omega), hp, if_pos hk]
    rw [h1, show (lnP tag k k).fits tag (k : Int) = true by simp [Ln.fits, lnP]]
    simp [c]
end Go.Proofs.Ytdckjoimgddcbaa
