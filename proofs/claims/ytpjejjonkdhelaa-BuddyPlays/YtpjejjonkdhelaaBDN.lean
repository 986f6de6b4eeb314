/- Frames that are seen. -/
import Derived.Test.YtpjejjonkdhelaaBDM
namespace Go.Proofs.Ytpjejjonkdhelaa
open Go.ChangeShapes Go.WideShapes Go.ChangeAt Go.RowKit Go.Maps
set_option linter.unusedSimpArgs false
set_option linter.unusedVariables false
set_option maxRecDepth 8000

theorem in_any (f t x : Int) (z : Bool) (hz : z = true ↔ f ≤ x ∧ x < t) (w : World) : Calls Try.prog 41 #[.agg #[.int .i64 f, .int .i64 t], .int .i64 x] w fun e w' => e = .returned (.bool z) ∧ Below w.heap.size w w' := by
  by_cases c1 : f ≤ x
  · have d1 : decide (f ≤ x) = true := decide_eq_true c1
    by_cases c2 : x < t
    · have d2 : decide (x < t) = true := decide_eq_true c2
      obtain rfl := hz.2 ⟨c1, c2⟩
      clear hz
      go_enter Try.func41, Try.ntmps41
      go_wp2_with fail
      try go_quiet (fail)
      try go_wp2_with fail
      go_ret
      exact ⟨rfl, Go.Joins.below_alloc1 _ _⟩
    · have d2 : decide (x < t) = false := decide_eq_false c2
      have zf : z = false := by
        cases z with
        | false => rfl
        | true => exact absurd (hz.1 rfl).2 c2
      subst zf
      clear hz
      go_enter Try.func41, Try.ntmps41
      go_wp2_with fail
      try go_quiet (fail)
      try go_wp2_with fail
      go_ret
      exact ⟨rfl, Go.Joins.below_alloc1 _ _⟩
  · have d1 : decide (f ≤ x) = false := decide_eq_false c1
    have zf : z = false := by
      cases z with
      | false => rfl
      | true => exact absurd (hz.1 rfl).1 c1
    subst zf
    clear hz
    go_enter Try.func41, Try.ntmps41
    go_wp2_with fail
    try go_quiet (fail)
    try go_wp2_with fail
    go_ret
    exact ⟨rfl, Go.Joins.below_alloc1 _ _⟩
set_option maxHeartbeats 1000000 in
theorem some_any (g n c : Nat) (R : Nat → Int × Int) (x : Int) (z : Bool) (hz : z = true ↔ ∃ m, m < n ∧ (R m).1 ≤ x ∧ x < (R m).2) (hn : n ≤ 1000) (w : World) (H : Rgs w g n R) :
    Calls Try.prog 29 #[.slice (some ⟨g, 0, none⟩) n c, .int .i64 x] w fun e w' => e = .returned (.bool z) ∧ Below w.heap.size w w' := by
  have HH : Hid (Rgs w g n R) := H
  have HZ : Hid (z = true ↔ ∃ m, m < n ∧ (R m).1 ≤ x ∧ x < (R m).2) := hz
  clear H hz
  go_enter Try.func29, Try.ntmps29
  go_wp2_with fail
  go_loopw [6, 9] (fun _ i wr => ∃ j : Nat, j ≤ n ∧ i = .int .i64 j ∧ Hid (Below w.heap.size w wr) ∧ Hid (∀ m, m < j → ¬ ((R m).1 ≤ x ∧ x < (R m).2))) (fun _ i _ => n - (Go.RowKit.intOf i).toNat)
  case atStart => exact ⟨0, by omega, rfl, Below.refl _ _, fun i hi => absurd hi (Nat.not_lt_zero _)⟩
  case round =>
    obtain ⟨j, hj, rfl, hb, hF⟩ := hrel
    by_cases cj : j < n
    rotate_left
    · obtain rfl : j = n := by omega
      have d1 : decide ((j : Int) < (j : Int)) = false := by simp
      go_wp2_with fail
      go_ret
      have zf : z = false := by
        cases z with
        | false => rfl
        | true =>
          obtain ⟨m, h1, h2⟩ := HZ.out.1 rfl
          exact absurd h2 (hF.out m h1)
      exact ⟨by rw [zf]; rfl, hb.out⟩
    have dj : decide ((j : Int) < (n : Int)) = true := by simp; omega
    have d0 : decide ((j : Int) < 0) = false := by simp
    have RR := HH.out.below hb.out
    obtain ⟨q1, q2⟩ := RR.2 j cj
    have lg := RR.1
    by_cases cc : (R j).1 ≤ x ∧ x < (R j).2
    · have zt : Hid (z = true) := HZ.out.2 ⟨j, cj, cc⟩
      have IC : Hid (∀ W, Calls Try.prog 41 #[.agg #[.int .i64 (R j).1, .int .i64 (R j).2], .int .i64 x] W fun e w' => e = .returned (.bool true) ∧ Below W.heap.size W w') := fun W => in_any _ _ x true ⟨fun _ => cc, fun _ => rfl⟩ W
      generalize (R j).1 = f at *
      generalize (R j).2 = t at *
      clear RR hF cc
      go_wp2_with fail
      refine Calls.mono (IC.out _) ?_
      rintro e u ⟨rfl, hb2⟩
      have HB2 : Hid (Below w.heap.size w u) := by
        have b1 : Below w.heap.size w (wr.alloc (.cells #[.int .i64 f, .int .i64 t] 59)) := hb.out.alloc hb.out.size _
        exact b1.trans (hb2.mono b1.size)
      clear hb2
      go_wp2_with fail
      go_ret
      exact ⟨by rw [zt.out]; rfl, HB2.out⟩
    · have IC : Hid (∀ W, Calls Try.prog 41 #[.agg #[.int .i64 (R j).1, .int .i64 (R j).2], .int .i64 x] W fun e w' => e = .returned (.bool false) ∧ Below W.heap.size W w') := fun W => in_any _ _ x false ⟨(fun h => by cases h), fun h => absurd h cc⟩ W
      have NX : Hid (∀ m, m < j + 1 → ¬ ((R m).1 ≤ x ∧ x < (R m).2)) := fun m hm => by
        by_cases e : m = j
        · subst e; exact cc
        · exact hF.out m (by omega)
      generalize (R j).1 = f at *
      generalize (R j).2 = t at *
      clear RR hF cc
      go_wp2_with fail
      refine Calls.mono (IC.out _) ?_
      rintro e u ⟨rfl, hb2⟩
      have HB2 : Hid (Below w.heap.size w u) := by
        have b1 : Below w.heap.size w (wr.alloc (.cells #[.int .i64 f, .int .i64 t] 59)) := hb.out.alloc hb.out.size _
        exact b1.trans (hb2.mono b1.size)
      clear hb2
      go_wp2_with fail
      go_roundw
      case rel => exact ⟨j + 1, by omega, by go_num, HB2, NX⟩
      case measure => simp [Go.RowKit.intOf]; omega
/-- block sb holds which of n0 frames are seen -/
def Sn (w : World) (sb n0 : Nat) (S : Nat → Prop) : Prop := ∃ C : List Value, Blk w sb C 4 ∧ C.length = n0 ∧ ∀ i, i < n0 → (S i → C[i]? = some (.bool true)) ∧ (¬ S i → C[i]? = some (.bool false))
theorem Sn.block {w W : World} {sb n0 : Nat} {S : Nat → Prop} (H : Sn w sb n0 S) (e : W.heap[sb]? = w.heap[sb]?) : Sn W sb n0 S := by
  obtain ⟨C, h1, h2⟩ := H
  exact ⟨C, e.trans h1, h2⟩
theorem Sn.lt {w : World} {sb n0 : Nat} {S : Nat → Prop} (H : Sn w sb n0 S) : sb < w.heap.size := by
  obtain ⟨C, h1, h2⟩ := H
  exact blk_lt h1
theorem Sn.set {w : World} {sb n0 i : Nat} {S S' : Nat → Prop} (H : Sn w sb n0 S) (hi : i < n0) (hS : ∀ j, S' j ↔ S j ∨ j = i) : Sn (w.setCell ⟨sb, i, none⟩ (.bool true)) sb n0 S' := by
  obtain ⟨C, h1, h2, h3⟩ := H
  refine ⟨C.set i (.bool true), h1.set _ _, by simp [h2], fun j hj => ?_⟩
  by_cases c : j = i
  · subst c
    rw [List.getElem?_set_self (by omega)]
    exact ⟨fun _ => rfl, fun h => absurd ((hS j).2 (Or.inr rfl)) h⟩
  · rw [List.getElem?_set_ne (fun e => c e.symm)]
    refine ⟨fun h => (h3 j hj).1 ?_, fun h => (h3 j hj).2 (fun s => h ((hS j).2 (Or.inl s)))⟩
    rcases (hS j).1 h with r | r
    · exact r
    · exact absurd r c
theorem Sn.no {w : World} {sb n0 i : Nat} {S : Nat → Prop} (H : Sn w sb n0 S) (hi : i < n0) (hS : ¬ S i) : w.cell? ⟨sb, i, none⟩ = some (.bool false) ∧ w.frozen? ⟨sb, i, none⟩ = false := by
  obtain ⟨C, h1, h2, h3⟩ := H
  exact ⟨by rw [h1.cell]; exact (h3 i hi).2 hS, h1.free i⟩
theorem Sn.congr {w : World} {sb n0 : Nat} {S S' : Nat → Prop} (H : Sn w sb n0 S) (h : ∀ i, S i ↔ S' i) : Sn w sb n0 S' := by
  have : S = S' := funext fun i => propext (h i)
  rw [← this]; exact H
theorem bool_info : (Try.prog.info? 4).map (fun i => (i.zero, i.size, i.bytes)) = some (some (.bool false), 1, 1) := by kernel_rfl
theorem sn_make (n0 : Nat) (hn : n0 ≤ 1048576) (w : World) : ∃ w', (Instr.makeSlice 32 (.int .i64 n0) (.int .i64 n0)).run Try.prog w = .ok (.slice (some ⟨w.heap.size, 0, none⟩) n0 n0) w' ∧ Sn w' w.heap.size n0 (fun _ => False) ∧ Below w.heap.size w w' ∧ w'.heap.size = w.heap.size + 1 := by
  cases hq : Try.prog.info? 4 with
  | none => have h := bool_info; simp [hq] at h
  | some i0 =>
  have h := bool_info
  rw [hq] at h
  simp at h
  obtain ⟨h1, h2, h3⟩ := h
  have r := run_make (P := Try.prog) w 32 4 i0 (.bool false) Try.underlying32 hq h1 .i64 .i64 n0 n0 (by omega) (by omega) (by rw [h3]; omega) (by omega)
  rw [Int.toNat_natCast, h2, Nat.mul_one] at r
  refine ⟨_, r, ⟨(madeCells (Value.bool false).cells n0).toList, ?_, ?_, fun i hi => ⟨fun f => f.elim, fun _ => ?_⟩⟩, Go.Joins.below_alloc1 _ _, by rw [World.size_alloc]⟩
  · have := own1 w (.cells (madeCells (Value.bool false).cells n0) 4)
    show _ = _
    rw [Array.toArray_toList]; exact this
  · rw [Array.length_toList, size_madeCells]
  · rw [Array.getElem?_toList]
    unfold madeCells
    simp [hi, Value.cells]
    rw [Nat.mod_one]; rfl
set_option maxHeartbeats 2000000 in
theorem mark_any (g n c sb n0 cs a m : Nat) (R : Nat → Int × Int) (hn : n ≤ 1000) (hm : m ≤ 1048576) (ham : a + m ≤ n0) (h9 : n0 ≤ 1048576) (S : Nat → Prop) (w : World) (H : Rgs w g n R) (hS : Sn w sb n0 S) (ne : g ≠ sb) (hf : ∀ i, a ≤ i → i < a + m → ¬ S i ∧ RU R n i) :
    Calls Try.prog 28 #[.slice (some ⟨sb, 0, none⟩) n0 cs, .slice (some ⟨g, 0, none⟩) n c, .int .i64 a, .int .i64 m] w fun e w' => e = .returned (.bool true) ∧ Sn w' sb n0 (fun i => S i ∨ (a ≤ i ∧ i < a + m)) ∧ Kf (fun j => j = sb) w w' := by
  have HH : Hid (Rgs w g n R) := H
  have HF : Hid (∀ i, a ≤ i → i < a + m → ¬ S i ∧ RU R n i) := hf
  have H0 : Hid (Sn w sb n0 (fun j => S j ∨ (a ≤ j ∧ j < a)) ∧ Kf (fun j => j = sb) w w) := ⟨hS.congr (fun i => ⟨Or.inl, fun h => h.elim id (fun h => by omega)⟩), Kf.refl _ _⟩
  clear H hf hS
  go_enter Try.func28, Try.ntmps28
  go_wp2_with fail
  go_loopw [9] (fun v W => ∃ i : Nat, a ≤ i ∧ i ≤ a + m ∧ v = .int .i64 i ∧ Hid (Sn W sb n0 (fun j => S j ∨ (a ≤ j ∧ j < i)) ∧ Kf (fun j => j = sb) w W)) (fun v _ => a + m - (Go.RowKit.intOf v).toNat)
  case atStart => exact ⟨a, Nat.le_refl _, by omega, rfl, H0⟩
  case round =>
    clear H0
    obtain ⟨i, ai, im, rfl, hW⟩ := hrel
    by_cases ci : i < a + m
    rotate_left
    · obtain rfl : i = a + m := by omega
      have d1 : decide (((a + m : Nat) : Int) < (a : Int) + (m : Int)) = false := by simp
      go_wp2_with fail
      go_ret
      exact ⟨rfl, hW.out⟩
    have d1 : decide ((i : Int) < (a : Int) + (m : Int)) = true := by simp; omega
    have d0 : decide ((i : Int) < 0) = false := by simp
    have d2 : decide ((n0 : Int) ≤ (i : Int)) = false := by simp; omega
    have d3 : decide ((i : Int) < (n0 : Int)) = true := by simp; omega
    have fi := HF.out i ai ci
    have ni : ¬ (S i ∨ (a ≤ i ∧ i < i)) := fun h => h.elim fi.1 (fun h => by omega)
    obtain ⟨c0, _⟩ := hW.out.1.no (by omega) ni
    have lb := hW.out.1.lt
    have SC : Hid (Calls Try.prog 29 #[.slice (some ⟨g, 0, none⟩) n c, .int .i64 i] wr fun e w' => e = .returned (.bool true) ∧ Below wr.heap.size wr w') := some_any g n c R i true ⟨fun _ => fi.2, fun _ => rfl⟩ hn wr (HH.out.block hW.out.2.size (hW.out.2.block g HH.out.1 ne))
    have NI : Hid (¬ (S i ∨ (a ≤ i ∧ i < i))) := ni
    clear fi ni
    go_wp2_with fail
    refine Calls.mono SC.out ?_
    rintro e u ⟨rfl, hb⟩
    have S1 := hW.out.1.block (hb.block sb lb)
    obtain ⟨c1, f1⟩ := S1.no (by omega) NI.out
    have lu := S1.lt
    have HX : Hid (Sn (u.setCell ⟨sb, i, none⟩ (.bool true)) sb n0 (fun j => S j ∨ (a ≤ j ∧ j < i + 1)) ∧ Kf (fun j => j = sb) w (u.setCell ⟨sb, i, none⟩ (.bool true))) := by
      refine ⟨S1.set (by omega) (fun j => ?_), (hW.out.2.trans (Kf.below hb)).trans (Kf.set _ _ _ _ rfl)⟩
      constructor
      · rintro (h | h)
        · exact Or.inl (Or.inl h)
        · by_cases e : j = i
          · exact Or.inr e
          · exact Or.inl (Or.inr ⟨h.1, by omega⟩)
      · rintro ((h | h) | h)
        · exact Or.inl h
        · exact Or.inr ⟨h.1, by omega⟩
        · subst h; exact Or.inr ⟨ai, by omega⟩
    clear S1 hW SC hb c0
    go_wp2_with fail
    go_roundw
    case rel => exact ⟨i + 1, by omega, by omega, by go_num, HX⟩
    case measure => simp [Go.RowKit.intOf]; omega
end Go.Proofs.Ytpjejjonkdhelaa
