/- Copy that is refused; a memory of four frames with one hole. -/
import Derived.Test.YtfcdaoheljalfaaR16
namespace Go.Proofs.Ytfcdaoheljalfaa
open Go.ChangeShapes Go.WideShapes Go.ChangeAt Go.RowKit Go.Maps
set_option linter.unusedSimpArgs false
set_option linter.unusedVariables false

set_option maxHeartbeats 400000 in
theorem copy_err {w : World} {B rb : Nat} {has : Int → Bool} {F : Int} {M : Int → Int} {n : Nat} (h : IsRam w B rb has F M n) (to_ from_ : Int) (hno : has to_ = false ∨ has from_ = false) :
    Calls Try.prog 21 #[.pointer (some ⟨rb, 0, none⟩), .int .i64 to_, .int .i64 from_] w fun e w' => e = .returned (.int .i64 2) ∧ IsRam w' B rb has F M n ∧ Below B w w' := by
  obtain ⟨S0, hk0⟩ := h.hasOk
  have hc : Hid (∀ (k : Int) (w1 : World), w.grownBy w1 none → Calls Try.prog 12 #[.pointer (some ⟨rb, 0, none⟩), .int .i64 k] w1 fun e w2 => e = .returned (.bool (has k)) ∧ w.grownBy w2 none) := by
    intro k w1 hg
    refine (hk0.2.2 w1 (fun s hs => hg.block s (hk0.2.1 s hs) (by simp)) hg.size k).mono ?_
    rintro e w2 ⟨he, hg2⟩
    exact ⟨he, grown_trans hg hg2⟩
  have HI : Hid (IsRam w B rb has F M n) := h
  clear h hk0
  cases a1 : has to_
  · clear hno
    go_enter Try.func21, Try.ntmps21
    go_wp2_with fail
    refine (hc.out _ _ (World.grownBy.refl _ _)).mono ?_
    rintro e w1 ⟨rfl, hg1⟩
    go_wp2_with fail
    go_ret
    exact ⟨rfl, HI.out.grown hg1, below_of_grown0 hg1 HI.out.size⟩
  · have a2 : has from_ = false := by rcases hno with e | e; rw [a1] at e; cases e; exact e
    clear hno
    go_enter Try.func21, Try.ntmps21
    go_wp2_with fail
    refine (hc.out _ _ (World.grownBy.refl _ _)).mono ?_
    rintro e w1 ⟨rfl, hg1⟩
    go_wp2_with fail
    refine (hc.out _ _ hg1).mono ?_
    rintro e w2 ⟨rfl, hg2⟩
    go_wp2_with fail
    go_ret
    exact ⟨rfl, HI.out.grown hg2, below_of_grown0 hg2 HI.out.size⟩
theorem ce_at {B rb : Nat} {has : Int → Bool} {F : Int} (M : Int → Int) (n : Nat) (to_ from_ : Int) (hno : has to_ = false ∨ has from_ = false) :
    Hid (∀ w : World, IsRam w B rb has F M n → Calls Try.prog 21 #[.pointer (some ⟨rb, 0, none⟩), .int .i64 to_, .int .i64 from_] w fun e w' => e = .returned (.int .i64 2) ∧ IsRam w' B rb has F M n ∧ Below B w w') :=
  fun w h => copy_err h to_ from_ hno

def h4 : Int → Bool := hasH 4 [(1, 2)]
theorem h4_0 : h4 0 = true := by decide
theorem h4_1 : h4 1 = false := by decide
theorem h4_2 : h4 2 = true := by decide
theorem h4_3 : h4 3 = true := by decide
theorem chk4_in {a size : Int} (hs : size = 1 ∨ size = 2 ∨ size = 4 ∨ size = 8) (h0 : 0 ≤ a) (h1 : a + size ≤ 4096) : chkG h4 a size = 0 := by
  unfold chkG
  rw [if_pos hs, show a / 4096 = 0 by omega, show (a + size - 1) / 4096 = 0 by omega, h4_0, if_pos ⟨by omega, rfl, rfl⟩]
theorem chk4_over {a size : Int} (hs : size = 1 ∨ size = 2 ∨ size = 4 ∨ size = 8) (h0 : 0 ≤ a) (h1 : a ≤ 4096) (h2 : 4096 < a + size) : chkG h4 a size = 2 := by
  unfold chkG
  rw [if_pos hs, show (a + size - 1) / 4096 = 1 by omega, h4_1, if_neg (by simp)]
theorem chk4_bad {a size : Int} (hs : ¬ (size = 1 ∨ size = 2 ∨ size = 4 ∨ size = 8)) : chkG h4 a size = 1 := by
  unfold chkG; rw [if_neg hs]
theorem chk4_far {a size : Int} (hs : size = 1 ∨ size = 2 ∨ size = 4 ∨ size = 8) (h0 : 0 ≤ a) (h1 : a ≤ 4096) : chkG h4 (8192 + a) size = 0 := by
  unfold chkG
  rw [if_pos hs]
  have e1 : h4 ((8192 + a) / 4096) = true := by
    rcases (show (8192 + a) / 4096 = 2 ∨ (8192 + a) / 4096 = 3 by omega) with e | e <;> rw [e]
    · exact h4_2
    · exact h4_3
  have e2 : h4 ((8192 + a + size - 1) / 4096) = true := by
    rcases (show (8192 + a + size - 1) / 4096 = 2 ∨ (8192 + a + size - 1) / 4096 = 3 by omega) with e | e <;> rw [e]
    · exact h4_2
    · exact h4_3
  rw [if_pos ⟨by omega, e1, e2⟩]
theorem holes1 (w : World) : HolesAt (w.alloc (.cells #[.int .i64 1, .int .i64 2] 53)) w.heap.size [(1, 2)] := by
  intro j x hx
  have hj : j = 0 := by have := (List.getElem?_eq_some_iff.1 hx).1; simp at this; exact this
  subst hj
  cases hx
  exact ⟨World.cell?_alloc_at _ _ _ _ rfl, World.cell?_alloc_at _ _ _ _ rfl⟩
theorem new4 (w : World) : Hid (∀ u : Unit, Calls Try.prog 8 #[.int .i64 4, .slice (some ⟨w.heap.size, 0, none⟩) 1 1] (w.alloc (.cells #[.int .i64 1, .int .i64 2] 53)) fun e w' => ∃ rb, e = .returned (.tuple #[.pointer (some ⟨rb, 0, none⟩), .int .i64 0]) ∧
    IsRam w' (w.heap.size + 1) rb h4 4 (fun _ => 0) 0 ∧ Below w.heap.size w w') := by
  intro _
  have := new_holes 4 (by omega) (by omega) w.heap.size 1 [(1, 2)] (w.alloc (.cells #[.int .i64 1, .int .i64 2] 53)) (by decide) (by decide) (holes1 w) (by rw [World.size_alloc]; omega) (by
    intro j x hx
    have hj : j = 0 := by have := (List.getElem?_eq_some_iff.1 hx).1; simp at this; exact this
    subst hj; cases hx; exact ⟨by decide, by decide, by decide⟩)
  rw [World.size_alloc] at this
  refine this.mono ?_
  rintro e w' ⟨rb, h1, h2, h3⟩
  exact ⟨rb, h1, h2, ((Below.refl _ _).alloc (Nat.le_refl _) _).trans (h3.mono (by omega))⟩
theorem clr_zero : clr (fun _ => 0) 0 = true := by unfold clr; exact decide_eq_true (fun _ _ => rfl)
theorem clr_mzero (M : Int → Int) : clr (mzero M 0) 0 = true := by
  unfold clr; refine decide_eq_true (fun i hi => ?_); unfold mzero; rw [if_pos (by omega)]
theorem grown_of_below' {w w' : World} (h : Below w.heap.size w w') : w.grownBy w' none := ⟨h.os, h.tape, h.output, h.size, fun k hk _ => h.block k hk⟩
end Go.Proofs.Ytfcdaoheljalfaa
