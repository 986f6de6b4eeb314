/- Memories of any size with any holes: New, Check, Has. -/
import Derived.Test.YtdfalincdgdlcaaN1
namespace Go.Proofs.Ytdfalincdgdlcaa
open Go.ChangeShapes Go.WideShapes Go.ChangeAt Go.RowKit Go.Maps
set_option linter.unusedSimpArgs false
set_option linter.unusedVariables false

/-- the error's number of a memory -/
def badR (F : Int) (h : Int × Int) : Bool := decide (h.1 < 0) || (decide (h.2 < h.1) || decide (F < h.2))
def chkR (F : Int) (hs : List (Int × Int)) : Int := if F < 1 then 1 else if 1048576 < F then 4 else if 64 < hs.length then 4 else if hs.any (badR F) = true then 3 else 0
theorem any_take (f : Int × Int → Bool) (hs : List (Int × Int)) (j : Nat) (h : Int × Int) (hj : hs[j]? = some h) : (hs.take (j + 1)).any f = ((hs.take j).any f || f h) := by
  rw [List.take_add_one, hj]; simp
theorem bad_no {F : Int} {f t : Int} (h : badR F (f, t) = false) : 0 ≤ f ∧ f ≤ t ∧ t ≤ F := by
  unfold badR at h; simp at h; omega
set_option maxHeartbeats 1000000 in
theorem new_arg (F : Int) (hb cap : Nat) (hs : List (Int × Int)) (w : World) (h : F < 1) :
    Calls Try.prog 5 #[.int .i64 F, .slice (some ⟨hb, 0, none⟩) hs.length cap] w fun e w' => e = .returned (.tuple #[.pointer none, .int .i64 1]) ∧ Below w.heap.size w w' := by
  have d0 : decide (F < 1) = true := by simp [h]
  go_enter Try.func5, Try.ntmps5
  go_wp2_with fail
  go_returns
  exact ⟨rfl, Below.refl _ _⟩
set_option maxHeartbeats 1000000 in
theorem new_big (F : Int) (hb cap : Nat) (hs : List (Int × Int)) (w : World) (h0 : ¬ F < 1) (h : 1048576 < F ∨ 64 < hs.length) :
    Calls Try.prog 5 #[.int .i64 F, .slice (some ⟨hb, 0, none⟩) hs.length cap] w fun e w' => e = .returned (.tuple #[.pointer none, .int .i64 4]) ∧ Below w.heap.size w w' := by
  have d0 : decide (F < 1) = false := by simp; omega
  by_cases c : 1048576 < F
  · have d1 : decide (1048576 < F) = true := by simp [c]
    go_enter Try.func5, Try.ntmps5
    go_wp2_with fail
    go_returns
    exact ⟨rfl, Below.refl _ _⟩
  · have d1 : decide (1048576 < F) = false := by simp; omega
    have d2 : decide (64 < (hs.length : Int)) = true := by simp; omega
    go_enter Try.func5, Try.ntmps5
    go_wp2_with fail
    go_returns
    exact ⟨rfl, Below.refl _ _⟩
set_option maxHeartbeats 2000000 in
theorem new_form (F : Int) (f0 : ¬ F < 1) (f1 : ¬ 1048576 < F) (hb cap : Nat) (hs : List (Int × Int)) (w : World) (l1 : hs.length ≤ 64) (hh : HolesAt w hb hs) (hhb : hb < w.heap.size) (hbad : hs.any (badR F) = true) :
    Calls Try.prog 5 #[.int .i64 F, .slice (some ⟨hb, 0, none⟩) hs.length cap] w fun e w' => e = .returned (.tuple #[.pointer none, .int .i64 3]) ∧ Below w.heap.size w w' := by
  have d0 : decide (F < 1) = false := by simp; omega
  have d1 : decide (1048576 < F) = false := by simp; omega
  have d2 : decide (64 < (hs.length : Int)) = false := by simp; omega
  have HB : Hid (hs.any (badR F) = true) := hbad
  have HH : Hid (HolesAt w hb hs) := hh
  clear hbad hh
  go_enter Try.func5, Try.ntmps5
  go_wp2_with fail
  go_loopw [19] (fun i wr => ∃ j : Nat, j ≤ hs.length ∧ i = .int .i64 j ∧ Hid (w.grownBy wr none) ∧ Hid ((hs.take j).any (badR F) = false)) (fun i _ => hs.length - (intOf i).toNat)
  case atStart => exact ⟨0, by omega, rfl, World.grownBy.refl _ _, rfl⟩
  case round =>
    obtain ⟨j, hj, rfl, hg, hno⟩ := hrel
    have hb2 := hg.out.block hb hhb (by simp)
    by_cases cj : j < hs.length
    · have hdj : decide ((j : Int) < (hs.length : Int)) = true := by simp; omega
      obtain ⟨f, t, hft⟩ : ∃ f t : Int, hs[j]? = some (f, t) := ⟨(hs[j]).1, (hs[j]).2, by rw [List.getElem?_eq_getElem cj]⟩
      have q1 : wr.cell? ⟨hb, j * 2, none⟩ = some (.int .i64 f) := by rw [World.cell?_of_block (w := w) (a := ⟨hb, j * 2, none⟩) hb2]; exact (HH.out j _ hft).1
      have q2 : wr.cell? ⟨hb, j * 2 + 1, none⟩ = some (.int .i64 t) := by rw [World.cell?_of_block (w := w) (a := ⟨hb, j * 2 + 1, none⟩) hb2]; exact (HH.out j _ hft).2
      have AT : Hid ((hs.take (j + 1)).any (badR F) = badR F (f, t)) := by
        show _ = _
        rw [any_take (badR F) hs j (f, t) hft, hno.out]; rfl
      have AA : Hid (badR F (f, t) = true → hs.any (badR F) = true) := fun hb => by
        rw [List.any_eq_true]; exact ⟨(f, t), List.mem_of_getElem? hft, hb⟩
      clear hft hb2
      by_cases c0 : f < 0
      · have e0 : decide (f < 0) = true := by simp [c0]
        have B : Hid (hs.any (badR F) = true) := AA.out (by unfold badR; simp; omega)
        go_wp2_with fail
        go_returns
        exact ⟨rfl, below_none (grown_trans hg.out (World.grownBy_alloc _ _ none))⟩
      have e0 : decide (f < 0) = false := by simp; omega
      by_cases c1 : t < f
      · have e1 : decide (t < f) = true := by simp [c1]
        have B : Hid (hs.any (badR F) = true) := AA.out (by unfold badR; simp; omega)
        go_wp2_with fail
        go_returns
        exact ⟨rfl, below_none (grown_trans hg.out (World.grownBy_alloc _ _ none))⟩
      have e1 : decide (t < f) = false := by simp; omega
      by_cases c2 : F < t
      · have e2 : decide (F < t) = true := by simp [c2]
        have B : Hid (hs.any (badR F) = true) := AA.out (by unfold badR; simp; omega)
        go_wp2_with fail
        go_returns
        exact ⟨rfl, below_none (grown_trans hg.out (World.grownBy_alloc _ _ none))⟩
      have e2 : decide (F < t) = false := by simp; omega
      have NB : Hid ((hs.take (j + 1)).any (badR F) = false) := by
        show _ = _
        rw [AT.out]; unfold badR; simp; omega
      go_wp2_with fail
      go_roundw
      case rel => exact ⟨j + 1, by omega, by go_num, grown_trans hg.out (World.grownBy_alloc _ _ none), NB⟩
      case measure => simp [intOf]; omega
    · obtain rfl : j = hs.length := by omega
      have NB : Hid (hs.any (badR F) = false) := by
        have := hno.out
        rw [List.take_length] at this; exact this
      exfalso
      have := NB.out
      rw [HB.out] at this; simp at this
set_option maxHeartbeats 2000000 in
theorem rcheck_any (F : Int) (hb cap : Nat) (hs : List (Int × Int)) (w : World) (hh : HolesAt w hb hs) (hhb : hb < w.heap.size) (l9 : hs.length ≤ 70) :
    Calls Try.prog 6 #[.int .i64 F, .slice (some ⟨hb, 0, none⟩) hs.length cap] w fun e w' => e = .returned (.int .i64 (chkR F hs)) ∧ Below w.heap.size w w' := by
  unfold chkR
  have HH : Hid (HolesAt w hb hs) := hh
  clear hh
  by_cases a : F < 1
  · rw [if_pos a]
    have d0 : decide (F < 1) = true := by simp [a]
    go_enter Try.func6, Try.ntmps6
    go_wp2_with fail
    go_ret
    exact ⟨rfl, Below.refl _ _⟩
  rw [if_neg a]
  have d0 : decide (F < 1) = false := by simp; omega
  by_cases b : 1048576 < F
  · rw [if_pos b]
    have d1 : decide (1048576 < F) = true := by simp [b]
    go_enter Try.func6, Try.ntmps6
    go_wp2_with fail
    go_ret
    exact ⟨rfl, Below.refl _ _⟩
  rw [if_neg b]
  have d1 : decide (1048576 < F) = false := by simp; omega
  by_cases c : 64 < hs.length
  · rw [if_pos c]
    have d2 : decide (64 < (hs.length : Int)) = true := by simp; omega
    go_enter Try.func6, Try.ntmps6
    go_wp2_with fail
    go_ret
    exact ⟨rfl, Below.refl _ _⟩
  rw [if_neg c]
  have d2 : decide (64 < (hs.length : Int)) = false := by simp; omega
  obtain ⟨z, hz⟩ : ∃ z : Int, (if hs.any (badR F) = true then (3 : Int) else 0) = z := ⟨_, rfl⟩
  rw [hz]
  have H3 : Hid (hs.any (badR F) = true → z = 3) := fun h => by rw [← hz, if_pos h]
  have H0 : Hid (hs.any (badR F) = false → z = 0) := fun h => by rw [← hz, if_neg (by rw [h]; simp)]
  clear hz
  go_enter Try.func6, Try.ntmps6
  go_wp2_with fail
  go_loopw [18] (fun i wr => ∃ j : Nat, j ≤ hs.length ∧ i = .int .i64 j ∧ Hid (w.grownBy wr none) ∧ Hid ((hs.take j).any (badR F) = false)) (fun i _ => hs.length - (intOf i).toNat)
  case atStart => exact ⟨0, by omega, rfl, World.grownBy.refl _ _, rfl⟩
  case round =>
    obtain ⟨j, hj, rfl, hg, hno⟩ := hrel
    have hb2 := hg.out.block hb hhb (by simp)
    by_cases cj : j < hs.length
    · have hdj : decide ((j : Int) < (hs.length : Int)) = true := by simp; omega
      obtain ⟨f, t, hft⟩ : ∃ f t : Int, hs[j]? = some (f, t) := ⟨(hs[j]).1, (hs[j]).2, by rw [List.getElem?_eq_getElem cj]⟩
      have q1 : wr.cell? ⟨hb, j * 2, none⟩ = some (.int .i64 f) := by rw [World.cell?_of_block (w := w) (a := ⟨hb, j * 2, none⟩) hb2]; exact (HH.out j _ hft).1
      have q2 : wr.cell? ⟨hb, j * 2 + 1, none⟩ = some (.int .i64 t) := by rw [World.cell?_of_block (w := w) (a := ⟨hb, j * 2 + 1, none⟩) hb2]; exact (HH.out j _ hft).2
      have AT : Hid ((hs.take (j + 1)).any (badR F) = badR F (f, t)) := by
        show _ = _
        rw [any_take (badR F) hs j (f, t) hft, hno.out]; rfl
      have AA : Hid (badR F (f, t) = true → hs.any (badR F) = true) := fun hb => by
        rw [List.any_eq_true]; exact ⟨(f, t), List.mem_of_getElem? hft, hb⟩
      clear hft hb2
      by_cases c0 : f < 0
      · have e0 : decide (f < 0) = true := by simp [c0]
        have B : Hid (hs.any (badR F) = true) := AA.out (by unfold badR; simp; omega)
        go_wp2_with fail
        go_ret
        have e3 := H3.out B.out
        subst e3
        exact ⟨rfl, below_none (grown_trans hg.out (World.grownBy_alloc _ _ none))⟩
      have e0 : decide (f < 0) = false := by simp; omega
      by_cases c1 : t < f
      · have e1 : decide (t < f) = true := by simp [c1]
        have B : Hid (hs.any (badR F) = true) := AA.out (by unfold badR; simp; omega)
        go_wp2_with fail
        go_ret
        have e3 := H3.out B.out
        subst e3
        exact ⟨rfl, below_none (grown_trans hg.out (World.grownBy_alloc _ _ none))⟩
      have e1 : decide (t < f) = false := by simp; omega
      by_cases c2 : F < t
      · have e2 : decide (F < t) = true := by simp [c2]
        have B : Hid (hs.any (badR F) = true) := AA.out (by unfold badR; simp; omega)
        go_wp2_with fail
        go_ret
        have e3 := H3.out B.out
        subst e3
        exact ⟨rfl, below_none (grown_trans hg.out (World.grownBy_alloc _ _ none))⟩
      have e2 : decide (F < t) = false := by simp; omega
      have NB : Hid ((hs.take (j + 1)).any (badR F) = false) := by
        show _ = _
        rw [AT.out]; unfold badR; simp; omega
      go_wp2_with fail
      go_roundw
      case rel => exact ⟨j + 1, by omega, by go_num, grown_trans hg.out (World.grownBy_alloc _ _ none), NB⟩
      case measure => simp [intOf]; omega
    · obtain rfl : j = hs.length := by omega
      have NB : Hid (hs.any (badR F) = false) := by
        have := hno.out
        rw [List.take_length] at this; exact this
      go_wp2_with fail
      go_ret
      have e0 := H0.out NB.out
      subst e0
      exact ⟨rfl, below_none hg.out⟩
end Go.Proofs.Ytdfalincdgdlcaa
