/- Memories of any size with any holes: the list, and what is refused. -/
import Derived.Test.YtdfalincdgdlcaaN3
namespace Go.Proofs.Ytdfalincdgdlcaa
open Go.ChangeShapes Go.WideShapes Go.ChangeAt Go.RowKit Go.Maps
set_option linter.unusedSimpArgs false
set_option linter.unusedVariables false

theorem few_any (p : Option Addr) (n c : Nat) (F : Nat → Int × Int) (w : World) (h : IsRgs w p n F) (nc : n ≤ c) (n9 : n ≤ maxLen) :
    Calls Try.prog 4 #[.slice p n c] w fun e w' => ∃ g cap hs, e = .returned (.slice (some ⟨g, 0, none⟩) (List.length hs) cap) ∧ List.length hs ≤ 70 ∧ g < w'.heap.size ∧ HolesAt w' g hs ∧ Below w.heap.size w w' := by
  by_cases n0 : 0 < n
  · obtain ⟨b, o, rfl, _⟩ := h 0 n0
    by_cases n7 : n ≤ 70
    · refine (few_short b o n c F w h n0 nc n9 n7).mono ?_
      rintro e w' ⟨g, cap, he, k1, k2, k3, k4⟩
      exact ⟨g, cap, firstOf F n, he, by rw [first_len]; exact n7, k2, k3, k4⟩
    · refine (few_long b o n c F w h n0 nc n9 (by omega)).mono ?_
      rintro e w' ⟨g, cap, he, k1, k2, k3, k4⟩
      exact ⟨g, cap, firstOf F 70, he, by rw [first_len]; omega, k2, k3, k4⟩
  · obtain rfl : n = 0 := by omega
    refine (few_none p c w (by cases p with | none => exact Or.inl rfl | some a => exact Or.inr ⟨a, rfl⟩)).mono ?_
    rintro e w' ⟨g, cap, he, k1, k2, k4⟩
    exact ⟨g, cap, [], he, by simp, k2, fun j h hj => by simp at hj, k4⟩
theorem new_refused (F : Int) (hb cap : Nat) (hs : List (Int × Int)) (w : World) (hh : HolesAt w hb hs) (hhb : hb < w.heap.size) (hz : chkR F hs ≠ 0) :
    Calls Try.prog 5 #[.int .i64 F, .slice (some ⟨hb, 0, none⟩) hs.length cap] w fun e w' => e = .returned (.tuple #[.pointer none, .int .i64 (chkR F hs)]) ∧ Below w.heap.size w w' := by
  unfold chkR at hz ⊢
  by_cases a : F < 1
  · rw [if_pos a]; exact new_arg F hb cap hs w a
  rw [if_neg a] at hz ⊢
  by_cases b : 1048576 < F
  · rw [if_pos b]; exact new_big F hb cap hs w a (Or.inl b)
  rw [if_neg b] at hz ⊢
  by_cases c : 64 < hs.length
  · rw [if_pos c]; exact new_big F hb cap hs w a (Or.inr c)
  rw [if_neg c] at hz ⊢
  by_cases d : hs.any (badR F) = true
  · rw [if_pos d]; exact new_form F a b hb cap hs w (by omega) hh hhb d
  · rw [if_neg d] at hz; exact absurd rfl hz
theorem chk_zero {F : Int} {hs : List (Int × Int)} (hz : chkR F hs = 0) : ¬ F < 1 ∧ ¬ 1048576 < F ∧ hs.length ≤ 64 ∧ hs.any (badR F) = false := by
  unfold chkR at hz
  by_cases a : F < 1
  · rw [if_pos a] at hz; omega
  rw [if_neg a] at hz
  by_cases b : 1048576 < F
  · rw [if_pos b] at hz; omega
  rw [if_neg b] at hz
  by_cases c : 64 < hs.length
  · rw [if_pos c] at hz; omega
  rw [if_neg c] at hz
  by_cases d : hs.any (badR F) = true
  · rw [if_pos d] at hz; omega
  · exact ⟨a, b, by omega, by simpa using d⟩
theorem has_minus (F : Int) (hs : List (Int × Int)) : hasH F hs (-1) = false := by unfold hasH hasF; simp
theorem has_top (F : Int) (hs : List (Int × Int)) : hasH F hs F = false := by unfold hasH hasF; simp
theorem below_then {w x y : World} (h1 : Below w.heap.size w x) (h2 : Below x.heap.size x y) : Below w.heap.size w y := h1.trans (Go.Joins.below_le h2 h1.size)
theorem below_new {w w' : World} (h : Below w.heap.size w w') (o : Obj) : Below w.heap.size w (w'.alloc o) := h.alloc h.size o
theorem below_drew {n : Nat} {w W : World} (h : Below n w W) : Below n w W.drew := ⟨h.os, h.tape, h.output, h.size, h.block⟩
end Go.Proofs.Ytdfalincdgdlcaa
