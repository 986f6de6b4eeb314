/- Memories of any size with any holes: what is there. -/
import Derived.Test.YtdfalincdgdlcaaN2
namespace Go.Proofs.Ytdfalincdgdlcaa
open Go.ChangeShapes Go.WideShapes Go.ChangeAt Go.RowKit Go.Maps
set_option linter.unusedSimpArgs false
set_option linter.unusedVariables false

/-- a memory's own words: how many frames, which holes -/
def RawR (W : World) (rb g cap : Nat) (F : Int) (hs : List (Int × Int)) : Prop := W.cell? ⟨rb, 0, none⟩ = some (.int .i64 F) ∧ W.cell? ⟨rb, 1, none⟩ = some (.slice (some ⟨g, 0, none⟩) hs.length cap) ∧ rb < W.heap.size ∧ g < W.heap.size ∧ HolesAt W g hs
theorem holes_below {w w' : World} {g : Nat} {hs : List (Int × Int)} (h : HolesAt w g hs) (l : g < w.heap.size) (hb : Below w.heap.size w w') : HolesAt w' g hs := h.kept (hb.block g l)
theorem RawR.below {w w' : World} {rb g cap : Nat} {F : Int} {hs : List (Int × Int)} (h : RawR w rb g cap F hs) (hb : Below w.heap.size w w') : RawR w' rb g cap F hs :=
  ⟨(hb.cell (p := ⟨rb, 0, none⟩) h.2.2.1).trans h.1, (hb.cell (p := ⟨rb, 1, none⟩) h.2.2.1).trans h.2.1, Nat.lt_of_lt_of_le h.2.2.1 hb.size, Nat.lt_of_lt_of_le h.2.2.2.1 hb.size, holes_below h.2.2.2.2 h.2.2.2.1 hb⟩
set_option maxHeartbeats 400000 in
theorem clone_empty (hb cap : Nat) (w : World) :
    Calls Try.prog 20 #[.slice (some ⟨hb, 0, none⟩) 0 cap] w fun e w' => ∃ g cap', e = .returned (.slice (some ⟨g, 0, none⟩) 0 cap') ∧ w.heap.size ≤ g ∧ g < w'.heap.size ∧ w.grownBy w' none := by
  have he : ∀ (m c : Nat) (W : World), (binOp .eql 22 (.slice (some ⟨hb, 0, none⟩) m c) (.slice none 0 0)).run Try.prog W = .ok (.bool false) W := fun m c W => by kernel_rfl
  go_enter Try.func20, Try.ntmps20
  go_wp2
  go_ret
  exact ⟨_, _, rfl, by omega, by simp, World.grownBy_alloc _ _ none⟩
set_option maxHeartbeats 1000000 in
theorem new_empty (F : Int) (f0 : ¬ F < 1) (f1 : ¬ 1048576 < F) (hb cap : Nat) (w : World) (hhb : hb < w.heap.size) :
    Calls Try.prog 5 #[.int .i64 F, .slice (some ⟨hb, 0, none⟩) 0 cap] w fun e w' => ∃ rb g cap', e = .returned (.tuple #[.pointer (some ⟨rb, 0, none⟩), .int .i64 0]) ∧ RawR w' rb g cap' F [] ∧ Below w.heap.size w w' := by
  have hmm := @run_makeMap Try.prog
  have d0 : decide (F < 1) = false := by simp; omega
  have d1 : decide (1048576 < F) = false := by simp; omega
  have hc : Hid (∀ W : World, Calls Try.prog 20 #[.slice (some ⟨hb, 0, none⟩) 0 cap] W fun e w' => ∃ g cap', e = .returned (.slice (some ⟨g, 0, none⟩) 0 cap') ∧ W.heap.size ≤ g ∧ g < w'.heap.size ∧ W.grownBy w' none) := fun W => clone_empty hb cap W
  go_enter Try.func5, Try.ntmps5
  go_wp2_with fail
  refine wp_loop_rounds 1 ?_
  rw [rounds_succ]
  go_wp2_with fail
  refine (hc.out _).mono ?_
  rintro e w2 ⟨g, cap', rfl, k1, k2, k3⟩
  have K : Hid (g < w2.heap.size ∧ Below w.heap.size w w2) := ⟨k2, below_none k3⟩
  clear k1 k2 k3
  go_wp2_with fail
  go_ret2
  refine ⟨w2.heap.size + 1, g, cap', rfl, ⟨by simp, by simp, by simp, ?_, fun j h hj => by simp at hj⟩, ?_⟩
  · have := K.out.1; simp; omega
  · exact (K.out.2.alloc K.out.2.size _).alloc (by have := K.out.2.size; simp; omega) _
theorem new_raw (F : Int) (f0 : ¬ F < 1) (f1 : ¬ 1048576 < F) (hb cap : Nat) (hs : List (Int × Int)) (w : World) (l1 : hs.length ≤ 64) (hh : HolesAt w hb hs) (hhb : hb < w.heap.size) (hgood : hs.any (badR F) = false) :
    Calls Try.prog 5 #[.int .i64 F, .slice (some ⟨hb, 0, none⟩) hs.length cap] w fun e w' => ∃ rb g cap', e = .returned (.tuple #[.pointer (some ⟨rb, 0, none⟩), .int .i64 0]) ∧ RawR w' rb g cap' F hs ∧ Below w.heap.size w w' := by
  by_cases l0 : 0 < hs.length
  · refine (new_holes_walk F (by omega) (by omega) hb cap hs w l0 l1 hh hhb (fun j h hj => ?_)).mono ?_
    · have : badR F h = false := by
        by_cases c : badR F h = true
        · have : hs.any (badR F) = true := by rw [List.any_eq_true]; exact ⟨h, List.mem_of_getElem? hj, c⟩
          rw [hgood] at this; simp at this
        · simpa using c
      exact bad_no this
    · rintro e w' ⟨g, cap', w2, k1, k2, k3, k4, rfl, rfl⟩
      have B2 : Below w.heap.size w w2 := below_none k4
      refine ⟨w2.heap.size + 1, g, cap', rfl, ⟨by simp, by simp, by simp, by simp; omega, ?_⟩, (B2.alloc B2.size _).alloc (by have := B2.size; simp; omega) _⟩
      exact holes_below k3 k2 (((Below.refl _ w2).alloc (Nat.le_refl _) _).alloc (by simp) _)
  · obtain rfl : hs = [] := List.length_eq_zero_iff.1 (by omega)
    exact new_empty F f0 f1 hb cap w hhb
theorem has_raw (rb g cap : Nat) (F k : Int) (hs : List (Int × Int)) (w : World) (h : RawR w rb g cap F hs) (l1 : hs.length ≤ 64) :
    Calls Try.prog 25 #[.pointer (some ⟨rb, 0, none⟩), .int .i64 k] w fun e w' => e = .returned (.bool (hasH F hs k)) ∧ Below w.heap.size w w' :=
  (has_any rb g cap F k hs w l1 h.1 h.2.1 h.2.2.2.1 h.2.2.2.2).mono fun e w' ⟨h1, h2⟩ => ⟨h1, below_none h2⟩
theorem in_take (hs : List (Int × Int)) (k : Int) (j : Nat) (f t : Int) (h : hs[j]? = some (f, t)) : inH (hs.take (j + 1)) k = (inH (hs.take j) k || (decide (f ≤ k) && decide (k < t))) := by
  unfold inH
  rw [List.take_add_one, h, List.any_append]; simp
set_option maxHeartbeats 2000000 in
theorem rhas_any (F k : Int) (hb cap : Nat) (hs : List (Int × Int)) (w : World) (hh : HolesAt w hb hs) (hhb : hb < w.heap.size) (l9 : hs.length ≤ 70) :
    Calls Try.prog 14 #[.agg #[.int .i64 F, .slice (some ⟨hb, 0, none⟩) hs.length cap, .map none], .int .i64 k] w fun e w' => e = .returned (.bool (hasH F hs k)) ∧ Below w.heap.size w w' := by
  have HH : Hid (HolesAt w hb hs) := hh
  clear hh
  obtain ⟨z, hz⟩ : ∃ z, hasH F hs k = z := ⟨_, rfl⟩
  rw [hz]
  have HZ : Hid (hasH F hs k = z) := hz
  clear hz
  obtain ⟨b0, hb0⟩ : ∃ b0, hasF F k = b0 := ⟨_, rfl⟩
  have HF : Hid (hasF F k = b0) := hb0
  have start : (0 ≤ k ∧ k < F ∧ b0 = true) ∨ (0 ≤ k ∧ ¬ k < F ∧ b0 = false) ∨ (¬ 0 ≤ k ∧ b0 = false) := by
    rw [← hb0]; unfold hasF
    by_cases a : 0 ≤ k
    · by_cases b : k < F
      · exact Or.inl ⟨a, b, by simp [a, b]⟩
      · exact Or.inr (Or.inl ⟨a, b, by simp [b]⟩)
    · exact Or.inr (Or.inr ⟨a, by simp [a]⟩)
  clear hb0
  have loop : Hid (∀ (x : Bool) (j : Nat) (f t : Int), hs[j]? = some (f, t) → (b0 && !inH (hs.take j) k) = x → (b0 && !inH (hs.take (j + 1)) k) = (x && !(decide (f ≤ k) && decide (k < t)))) := fun x j f t h e => by
    rw [in_take hs k j f t h, ← e]
    cases b0 <;> cases inH (hs.take j) k <;> simp
  rcases start with ⟨a, b, rfl⟩ | ⟨a, b, rfl⟩ | ⟨a, rfl⟩
  · have d0 : decide (0 ≤ k) = true := by simp [a]
    have d1 : decide (k < F) = true := by simp [b]
    go_enter Try.func14, Try.ntmps14
    go_wp2_with fail
    go_loopw [5, 19] (fun y i wr => ∃ (j : Nat) (x : Bool), j ≤ hs.length ∧ y = .bool x ∧ i = .int .i64 j ∧ Hid (w.grownBy wr none) ∧ Hid ((true && !inH (hs.take j) k) = x)) (fun _ i _ => hs.length - (intOf i).toNat)
    case atStart => exact ⟨0, true, by omega, rfl, rfl, World.grownBy_alloc _ _ none, (by show (true && !inH (hs.take 0) k) = true; simp [inH])⟩
    case round =>
      obtain ⟨j, x, hj, rfl, rfl, hg, hx⟩ := hrel
      have hb2 := hg.out.block hb hhb (by simp)
      by_cases cj : j < hs.length
      · have hdj : decide ((j : Int) < (hs.length : Int)) = true := by simp; omega
        obtain ⟨f, t, hft⟩ : ∃ f t : Int, hs[j]? = some (f, t) := ⟨(hs[j]).1, (hs[j]).2, by rw [List.getElem?_eq_getElem cj]⟩
        have q1 : wr.cell? ⟨hb, j * 2, none⟩ = some (.int .i64 f) := by rw [World.cell?_of_block (w := w) (a := ⟨hb, j * 2, none⟩) hb2]; exact (HH.out j _ hft).1
        have q2 : wr.cell? ⟨hb, j * 2 + 1, none⟩ = some (.int .i64 t) := by rw [World.cell?_of_block (w := w) (a := ⟨hb, j * 2 + 1, none⟩) hb2]; exact (HH.out j _ hft).2
        have NX := loop.out x j f t hft hx.out
        have NX' : Hid _ := NX
        clear NX hft hb2
        cases x
        · have N2 : Hid ((true && !inH (hs.take (j + 1)) k) = false) := by have := NX'.out; rw [this]; rfl
          clear NX'
          go_wp2_with fail
          go_roundw
          case rel => exact ⟨j + 1, false, by omega, rfl, by go_num, grown_trans hg.out (World.grownBy_alloc _ _ none), N2⟩
          case measure => simp [intOf]; omega
        · by_cases c1 : f ≤ k
          · have e1 : decide (f ≤ k) = true := by simp [c1]
            by_cases c2 : k < t
            · have e2 : decide (k < t) = true := by simp [c2]
              have N2 : Hid ((true && !inH (hs.take (j + 1)) k) = false) := by have := NX'.out; rw [this, e1, e2]; rfl
              clear NX'
              go_wp2_with fail
              go_roundw
              case rel => exact ⟨j + 1, false, by omega, rfl, by go_num, grown_trans hg.out (World.grownBy_alloc _ _ none), N2⟩
              case measure => simp [intOf]; omega
            · have e2 : decide (k < t) = false := by simp; omega
              have N2 : Hid ((true && !inH (hs.take (j + 1)) k) = true) := by have := NX'.out; rw [this, e1, e2]; rfl
              clear NX'
              go_wp2_with fail
              go_roundw
              case rel => exact ⟨j + 1, true, by omega, rfl, by go_num, grown_trans hg.out (World.grownBy_alloc _ _ none), N2⟩
              case measure => simp [intOf]; omega
          · have e1 : decide (f ≤ k) = false := by simp; omega
            have N2 : Hid ((true && !inH (hs.take (j + 1)) k) = true) := by have := NX'.out; rw [this, e1]; rfl
            clear NX'
            go_wp2_with fail
            go_roundw
            case rel => exact ⟨j + 1, true, by omega, rfl, by go_num, grown_trans hg.out (World.grownBy_alloc _ _ none), N2⟩
            case measure => simp [intOf]; omega
      · obtain rfl : j = hs.length := by omega
        have e9 : x = z := by
          have h1 := hx.out
          rw [List.take_length] at h1
          rw [← h1, ← HZ.out]; unfold hasH; rw [HF.out]
        subst e9
        clear loop
        go_wp2_with fail
        go_ret
        exact ⟨rfl, below_none hg.out⟩
  · have d0 : decide (0 ≤ k) = true := by simp [a]
    have d1 : decide (k < F) = false := by simp; omega
    go_enter Try.func14, Try.ntmps14
    go_wp2_with fail
    go_loopw [5, 19] (fun y i wr => ∃ (j : Nat) (x : Bool), j ≤ hs.length ∧ y = .bool x ∧ i = .int .i64 j ∧ Hid (w.grownBy wr none) ∧ Hid ((false && !inH (hs.take j) k) = x)) (fun _ i _ => hs.length - (intOf i).toNat)
    case atStart => exact ⟨0, false, by omega, rfl, rfl, World.grownBy_alloc _ _ none, (by show (false && !inH (hs.take 0) k) = false; simp [inH])⟩
    case round =>
      obtain ⟨j, x, hj, rfl, rfl, hg, hx⟩ := hrel
      have hb2 := hg.out.block hb hhb (by simp)
      by_cases cj : j < hs.length
      · have hdj : decide ((j : Int) < (hs.length : Int)) = true := by simp; omega
        obtain ⟨f, t, hft⟩ : ∃ f t : Int, hs[j]? = some (f, t) := ⟨(hs[j]).1, (hs[j]).2, by rw [List.getElem?_eq_getElem cj]⟩
        have q1 : wr.cell? ⟨hb, j * 2, none⟩ = some (.int .i64 f) := by rw [World.cell?_of_block (w := w) (a := ⟨hb, j * 2, none⟩) hb2]; exact (HH.out j _ hft).1
        have q2 : wr.cell? ⟨hb, j * 2 + 1, none⟩ = some (.int .i64 t) := by rw [World.cell?_of_block (w := w) (a := ⟨hb, j * 2 + 1, none⟩) hb2]; exact (HH.out j _ hft).2
        have NX := loop.out x j f t hft hx.out
        have NX' : Hid _ := NX
        clear NX hft hb2
        cases x
        · have N2 : Hid ((false && !inH (hs.take (j + 1)) k) = false) := by have := NX'.out; rw [this]; rfl
          clear NX'
          go_wp2_with fail
          go_roundw
          case rel => exact ⟨j + 1, false, by omega, rfl, by go_num, grown_trans hg.out (World.grownBy_alloc _ _ none), N2⟩
          case measure => simp [intOf]; omega
        · by_cases c1 : f ≤ k
          · have e1 : decide (f ≤ k) = true := by simp [c1]
            by_cases c2 : k < t
            · have e2 : decide (k < t) = true := by simp [c2]
              have N2 : Hid ((false && !inH (hs.take (j + 1)) k) = false) := by have := NX'.out; rw [this, e1, e2]; rfl
              clear NX'
              go_wp2_with fail
              go_roundw
              case rel => exact ⟨j + 1, false, by omega, rfl, by go_num, grown_trans hg.out (World.grownBy_alloc _ _ none), N2⟩
              case measure => simp [intOf]; omega
            · have e2 : decide (k < t) = false := by simp; omega
              have N2 : Hid ((false && !inH (hs.take (j + 1)) k) = true) := by have := NX'.out; rw [this, e1, e2]; rfl
              clear NX'
              go_wp2_with fail
              go_roundw
              case rel => exact ⟨j + 1, true, by omega, rfl, by go_num, grown_trans hg.out (World.grownBy_alloc _ _ none), N2⟩
              case measure => simp [intOf]; omega
          · have e1 : decide (f ≤ k) = false := by simp; omega
            have N2 : Hid ((false && !inH (hs.take (j + 1)) k) = true) := by have := NX'.out; rw [this, e1]; rfl
            clear NX'
            go_wp2_with fail
            go_roundw
            case rel => exact ⟨j + 1, true, by omega, rfl, by go_num, grown_trans hg.out (World.grownBy_alloc _ _ none), N2⟩
            case measure => simp [intOf]; omega
      · obtain rfl : j = hs.length := by omega
        have e9 : x = z := by
          have h1 := hx.out
          rw [List.take_length] at h1
          rw [← h1, ← HZ.out]; unfold hasH; rw [HF.out]
        subst e9
        clear loop
        go_wp2_with fail
        go_ret
        exact ⟨rfl, below_none hg.out⟩
  · have d0 : decide (0 ≤ k) = false := by simp; omega
    go_enter Try.func14, Try.ntmps14
    go_wp2_with fail
    go_loopw [5, 19] (fun y i wr => ∃ (j : Nat) (x : Bool), j ≤ hs.length ∧ y = .bool x ∧ i = .int .i64 j ∧ Hid (w.grownBy wr none) ∧ Hid ((false && !inH (hs.take j) k) = x)) (fun _ i _ => hs.length - (intOf i).toNat)
    case atStart => exact ⟨0, false, by omega, rfl, rfl, World.grownBy_alloc _ _ none, (by show (false && !inH (hs.take 0) k) = false; simp [inH])⟩
    case round =>
      obtain ⟨j, x, hj, rfl, rfl, hg, hx⟩ := hrel
      have hb2 := hg.out.block hb hhb (by simp)
      by_cases cj : j < hs.length
      · have hdj : decide ((j : Int) < (hs.length : Int)) = true := by simp; omega
        obtain ⟨f, t, hft⟩ : ∃ f t : Int, hs[j]? = some (f, t) := ⟨(hs[j]).1, (hs[j]).2, by rw [List.getElem?_eq_getElem cj]⟩
        have q1 : wr.cell? ⟨hb, j * 2, none⟩ = some (.int .i64 f) := by rw [World.cell?_of_block (w := w) (a := ⟨hb, j * 2, none⟩) hb2]; exact (HH.out j _ hft).1
        have q2 : wr.cell? ⟨hb, j * 2 + 1, none⟩ = some (.int .i64 t) := by rw [World.cell?_of_block (w := w) (a := ⟨hb, j * 2 + 1, none⟩) hb2]; exact (HH.out j _ hft).2
        have NX := loop.out x j f t hft hx.out
        have NX' : Hid _ := NX
        clear NX hft hb2
        cases x
        · have N2 : Hid ((false && !inH (hs.take (j + 1)) k) = false) := by have := NX'.out; rw [this]; rfl
          clear NX'
          go_wp2_with fail
          go_roundw
          case rel => exact ⟨j + 1, false, by omega, rfl, by go_num, grown_trans hg.out (World.grownBy_alloc _ _ none), N2⟩
          case measure => simp [intOf]; omega
        · by_cases c1 : f ≤ k
          · have e1 : decide (f ≤ k) = true := by simp [c1]
            by_cases c2 : k < t
            · have e2 : decide (k < t) = true := by simp [c2]
              have N2 : Hid ((false && !inH (hs.take (j + 1)) k) = false) := by have := NX'.out; rw [this, e1, e2]; rfl
              clear NX'
              go_wp2_with fail
              go_roundw
              case rel => exact ⟨j + 1, false, by omega, rfl, by go_num, grown_trans hg.out (World.grownBy_alloc _ _ none), N2⟩
              case measure => simp [intOf]; omega
            · have e2 : decide (k < t) = false := by simp; omega
              have N2 : Hid ((false && !inH (hs.take (j + 1)) k) = true) := by have := NX'.out; rw [this, e1, e2]; rfl
              clear NX'
              go_wp2_with fail
              go_roundw
              case rel => exact ⟨j + 1, true, by omega, rfl, by go_num, grown_trans hg.out (World.grownBy_alloc _ _ none), N2⟩
              case measure => simp [intOf]; omega
          · have e1 : decide (f ≤ k) = false := by simp; omega
            have N2 : Hid ((false && !inH (hs.take (j + 1)) k) = true) := by have := NX'.out; rw [this, e1]; rfl
            clear NX'
            go_wp2_with fail
            go_roundw
            case rel => exact ⟨j + 1, true, by omega, rfl, by go_num, grown_trans hg.out (World.grownBy_alloc _ _ none), N2⟩
            case measure => simp [intOf]; omega
      · obtain rfl : j = hs.length := by omega
        have e9 : x = z := by
          have h1 := hx.out
          rw [List.take_length] at h1
          rw [← h1, ← HZ.out]; unfold hasH; rw [HF.out]
        subst e9
        clear loop
        go_wp2_with fail
        go_ret
        exact ⟨rfl, below_none hg.out⟩
end Go.Proofs.Ytdfalincdgdlcaa
