/- The document's buddy: Check, all, set, Count. -/
import Derived.Test.YtpjejjonkdhelaaBDR
namespace Go.Proofs.Ytpjejjonkdhelaa
open Go.ChangeShapes Go.WideShapes Go.ChangeAt Go.RowKit Go.Maps
set_option linter.unusedSimpArgs false
set_option linter.unusedVariables false
set_option maxRecDepth 8000

theorem rchk_big (g n c : Nat) (hn : 64 < n) (w : World) : Calls Try.prog 11 #[.slice (some ⟨g, 0, none⟩) n c] w fun e w' => e = .returned (.int .i64 4) ∧ Below w.heap.size w w' := by
  have d : decide ((64 : Int) < (n : Int)) = true := by simp; omega
  go_enter Try.func11, Try.ntmps11
  go_wp2_with fail
  go_ret
  exact ⟨rfl, Below.refl _ _⟩
set_option maxHeartbeats 4000000 in
theorem rchk_any (g n c : Nat) (R : Nat → Int × Int) (z : Int) (hz : (Form R n → z = 0) ∧ (¬ Form R n → z = 3)) (hn : n ≤ 64) (w : World) (H : Rgs w g n R) :
    Calls Try.prog 11 #[.slice (some ⟨g, 0, none⟩) n c] w fun e w' => e = .returned (.int .i64 z) ∧ Below w.heap.size w w' := by
  have HH : Hid (Rgs w g n R) := H
  have HZ : Hid ((Form R n → z = 0) ∧ (¬ Form R n → z = 3)) := hz
  have d : decide ((64 : Int) < (n : Int)) = false := by simp; omega
  clear H hz
  go_enter Try.func11, Try.ntmps11
  go_wp2_with fail
  go_loopw [3, 4, 10] (fun _ _ i wr => ∃ j : Nat, j ≤ n ∧ i = .int .i64 j ∧ Hid (Below w.heap.size w wr) ∧ Hid (Form R j)) (fun _ _ i _ => n - (Go.RowKit.intOf i).toNat)
  case atStart => exact ⟨0, by omega, rfl, Below.refl _ _, fun i hi => absurd hi (Nat.not_lt_zero _)⟩
  case round =>
    obtain ⟨j, hj, rfl, hb, hF⟩ := hrel
    by_cases cj : j < n
    rotate_left
    · obtain rfl : j = n := by omega
      have d1 : decide ((j : Int) < (j : Int)) = false := by simp
      go_wp2_with fail
      go_ret
      exact ⟨by rw [HZ.out.1 hF.out]; rfl, hb.out⟩
    have dj : decide ((j : Int) < (n : Int)) = true := by simp; omega
    have d0 : decide ((j : Int) < 0) = false := by simp
    have RR := HH.out.below hb.out
    obtain ⟨q1, q2⟩ := RR.2 j cj
    have lg := RR.1
    have NX : Hid ((endAt R j ≤ (R j).1 ∧ (R j).1 < (R j).2 ∧ (R j).2 ≤ 1048576) → Form R (j + 1)) := fun h i hi => by
      by_cases e : i = j
      · subst e; exact h
      · exact hF.out i (by omega)
    have NO : Hid (¬ (endAt R j ≤ (R j).1 ∧ (R j).1 < (R j).2 ∧ (R j).2 ≤ 1048576) → z = 3) := fun h => HZ.out.2 (fun h2 => h (h2 j cj))
    have PV : j = 0 ∧ endAt R j = 0 ∨ ∃ i, j = i + 1 ∧ wr.cell? ⟨g, i * 2 + 1, none⟩ = some (.int .i64 (endAt R j)) := by
      cases j with
      | zero => exact Or.inl ⟨rfl, rfl⟩
      | succ i => exact Or.inr ⟨i, rfl, (RR.2 i (by omega)).2⟩
    have en0 := (end_pos hF.out j (Nat.le_refl _)).1
    generalize endAt R j = en at *
    generalize (R j).1 = f at *
    generalize (R j).2 = t at *
    clear RR hF
    by_cases c0 : f < 0
    · have e0 : decide (f < 0) = true := by simp [c0]
      have en1 : Hid (z = 3) := NO.out (by omega)
      clear PV
      go_wp2_with fail
      go_quiet (fail)
      go_wp2_with fail
      go_ret
      exact ⟨by rw [en1.out]; rfl, below_drewN (hb.out.alloc hb.out.size _) _⟩

    have e0 : decide (f < 0) = false := by simp; omega
    by_cases c1 : t ≤ f
    · have e1 : decide (t ≤ f) = true := by simp [c1]
      have en1 : Hid (z = 3) := NO.out (by omega)
      clear PV
      go_wp2_with fail
      go_quiet (fail)
      go_wp2_with fail
      go_ret
      exact ⟨by rw [en1.out]; rfl, below_drewN (hb.out.alloc hb.out.size _) _⟩

    have e1 : decide (t ≤ f) = false := by simp; omega
    by_cases c2 : 1048576 < t
    · have e2 : decide (1048576 < t) = true := by simp [c2]
      have en1 : Hid (z = 3) := NO.out (by omega)
      clear PV
      go_wp2_with fail
      go_quiet (fail)
      go_wp2_with fail
      go_ret
      exact ⟨by rw [en1.out]; rfl, below_drewN (hb.out.alloc hb.out.size _) _⟩

    have e2 : decide (1048576 < t) = false := by simp; omega
    rcases PV with ⟨j0, he⟩ | ⟨i, ji, cp⟩
    · subst j0
      subst he
      have FF : Hid (Form R (0 + 1)) := NX.out (by omega)
      have e3 : decide ((0 : Int) < ((0 : Nat) : Int)) = false := by simp
      have dj2 : decide ((0 : Int) < (n : Int)) = true := by simp; omega
      have dj3 : decide (0 < n) = true := by simp; omega
      go_wp2_with fail
      go_quiet (fail)
      go_wp2_with fail
      go_roundw
      case rel => exact ⟨0 + 1, by omega, by go_num, below_drewN (hb.out.alloc hb.out.size _) _, FF⟩
      case measure => simp [Go.RowKit.intOf]; omega
    have e3 : decide ((0 : Int) < (j : Int)) = true := by simp; omega
    have e3n : decide (0 < j) = true := by simp; omega
    have w1 : IntKind.i64.wrap ((j : Int) - 1) = (i : Int) := by rw [IntKind.wrap_i64]; omega
    have i0 : decide ((i : Int) < 0) = false := by simp
    have i1 : decide ((i : Int) < (n : Int)) = true := by simp; omega
    have i2 : i < n := by omega
    have i3 : (i : Int) < (n : Int) := by omega
    have i4 : decide (i < n) = true := by simp; omega
    by_cases c3 : f < en
    · have e4 : decide (f < en) = true := by simp [c3]
      have en1 : Hid (z = 3) := NO.out (by omega)
      clear ji
      go_wp2_with fail
      go_quiet (fail)
      go_wp2_with fail
      go_ret
      exact ⟨by rw [en1.out]; rfl, below_drewN (hb.out.alloc hb.out.size _) _⟩
    have e4 : decide (f < en) = false := by simp; omega
    have FF : Hid (Form R (j + 1)) := NX.out (by omega)
    clear ji
    go_wp2_with fail
    go_quiet (fail)
    go_wp2_with fail
    go_roundw
    case rel => exact ⟨j + 1, by omega, by go_num, below_drewN (hb.out.alloc hb.out.size _) _, FF⟩
    case measure => simp [Go.RowKit.intOf]; omega
theorem Sn.yes {w : World} {sb n0 i : Nat} {S : Nat → Prop} (H : Sn w sb n0 S) (hi : i < n0) (hS : S i) : w.cell? ⟨sb, i, none⟩ = some (.bool true) := by
  obtain ⟨C, h1, h2, h3⟩ := H
  rw [h1.cell]; exact (h3 i hi).1 hS
theorem Sn.there {w : World} {sb n0 i : Nat} {S : Nat → Prop} (H : Sn w sb n0 S) (hi : i < n0) : (∃ v, w.cell? ⟨sb, i, none⟩ = some v) ∧ w.frozen? ⟨sb, i, none⟩ = false := by
  obtain ⟨C, h1, h2, h3⟩ := H
  exact ⟨⟨C[i]'(by omega), by rw [h1.cell, List.getElem?_eq_getElem]⟩, h1.free i⟩
theorem Sn.put {w : World} {sb n0 i : Nat} {S S' : Nat → Prop} (H : Sn w sb n0 S) (hi : i < n0) (fr : Bool) (hS : ∀ j, j ≠ i → (S' j ↔ S j)) (hi2 : S' i ↔ fr = true) : Sn (w.setCell ⟨sb, i, none⟩ (.bool fr)) sb n0 S' := by
  obtain ⟨C, h1, h2, h3⟩ := H
  refine ⟨C.set i (.bool fr), h1.set _ _, by simp [h2], fun j hj => ?_⟩
  by_cases c : j = i
  · subst c
    rw [List.getElem?_set_self (by omega)]
    refine ⟨fun h => by rw [hi2.1 h], fun h => ?_⟩
    cases fr with
    | true => exact absurd (hi2.2 rfl) h
    | false => rfl
  · rw [List.getElem?_set_ne (fun e => c e.symm)]
    exact ⟨fun h => (h3 j hj).1 ((hS j c).1 h), fun h => (h3 j hj).2 (fun s => h ((hS j c).2 s))⟩
set_option maxHeartbeats 1000000 in
theorem rall_any (fb n cf : Nat) (gv : Value) (a m : Nat) (F : Nat → Prop) (z : Bool) (hz : z = true ↔ ∀ i, a ≤ i → i < a + m → F i) (ham : a + m ≤ n) (n9 : n ≤ 1048576) (w : World) (H : Sn w fb n F) :
    Calls Try.prog 44 #[.agg #[.slice (some ⟨fb, 0, none⟩) n cf, gv], .int .i64 a, .int .i64 m] w fun e w' => e = .returned (.bool z) ∧ Below w.heap.size w w' := by
  have HH : Hid (Sn w fb n F) := H
  have HZ : Hid (z = true ↔ ∀ i, a ≤ i → i < a + m → F i) := hz
  have lb := H.lt
  clear H hz
  go_enter Try.func44, Try.ntmps44
  go_wp2_with fail
  go_loopw [7] (fun v W => ∃ i : Nat, a ≤ i ∧ i ≤ a + m ∧ v = .int .i64 i ∧ W = w.alloc (.cells #[.slice (some ⟨fb, 0, none⟩) n cf, gv] 35) ∧ Hid (∀ j, a ≤ j → j < i → F j)) (fun v _ => a + m - (Go.RowKit.intOf v).toNat)
  case atStart => exact ⟨a, Nat.le_refl _, by omega, rfl, rfl, fun j h1 h2 => absurd h2 (by omega)⟩
  case round =>
    obtain ⟨i, ai, im, rfl, rfl, hF⟩ := hrel
    by_cases ci : i < a + m
    rotate_left
    · obtain rfl : i = a + m := by omega
      have d1 : decide (((a + m : Nat) : Int) < (a : Int) + (m : Int)) = false := by simp
      go_wp2_with fail
      go_ret
      exact ⟨by rw [HZ.out.2 hF.out]; rfl, Go.Joins.below_alloc1 _ _⟩
    have d1 : decide ((i : Int) < (a : Int) + (m : Int)) = true := by simp; omega
    have d0 : decide ((i : Int) < 0) = false := by simp
    have d3 : decide ((i : Int) < (n : Int)) = true := by simp; omega
    by_cases fi : F i
    · have c0 := HH.out.yes (i := i) (by omega) fi
      have NX : Hid (∀ j, a ≤ j → j < i + 1 → F j) := fun j h1 h2 => by
        by_cases e : j = i
        · subst e; exact fi
        · exact hF.out j h1 (by omega)
      clear hF fi
      go_wp2_with fail
      go_roundw
      case rel => exact ⟨i + 1, by omega, by omega, by go_num, trivial, NX⟩
      case measure => simp [Go.RowKit.intOf]; omega
    · have c0 := (HH.out.no (i := i) (by omega) fi).1
      have zf : Hid (z = false) := by
        show z = false
        cases z with
        | false => rfl
        | true => exact absurd (HZ.out.1 rfl i ai ci) fi
      clear hF fi
      go_wp2_with fail
      go_ret
      exact ⟨by rw [zf.out]; rfl, Go.Joins.below_alloc1 _ _⟩
set_option maxHeartbeats 1000000 in
theorem rset_any (fb n cf : Nat) (gv : Value) (a m : Nat) (fr : Bool) (F : Nat → Prop) (ham : a + m ≤ n) (n9 : n ≤ 1048576) (w : World) (H : Sn w fb n F) :
    Calls Try.prog 37 #[.agg #[.slice (some ⟨fb, 0, none⟩) n cf, gv], .int .i64 a, .int .i64 m, .bool fr] w fun e w' => e = .returned (.tuple #[]) ∧ Sn w' fb n (fun i => ((a ≤ i ∧ i < a + m) ∧ fr = true) ∨ (¬ (a ≤ i ∧ i < a + m) ∧ F i)) ∧ Kf (fun j => j = fb) w w' := by
  have lb := H.lt
  have ow := own1 w (.cells #[.slice (some ⟨fb, 0, none⟩) n cf, gv] 35)
  have b0 : Below w.heap.size w (w.alloc (.cells #[.slice (some ⟨fb, 0, none⟩) n cf, gv] 35)) := Go.Joins.below_alloc1 _ _
  have H1 := H.block (b0.block fb lb)
  have lw : w.heap.size < (w.alloc (.cells #[.slice (some ⟨fb, 0, none⟩) n cf, gv] 35)).heap.size := by rw [World.size_alloc]; omega
  have KB : Hid (Kf (fun j => j = fb) w (w.alloc (.cells #[.slice (some ⟨fb, 0, none⟩) n cf, gv] 35))) := Kf.below b0
  clear H b0
  go_enter Try.func37, Try.ntmps37
  go_upto_region 1 with fail
  generalize w.alloc (.cells #[.slice (some ⟨fb, 0, none⟩) n cf, gv] 35) = w1 at *
  have ne : w.heap.size ≠ fb := by omega
  generalize w.heap.size = r at *
  have CC : Hid (∀ W, Kf (fun j => j = fb) w1 W → W.cell? ⟨r, 0, none⟩ = some (.slice (some ⟨fb, 0, none⟩) n cf) ∧ r < W.heap.size) := fun W k => by
    have e := (k.block r lw ne).trans ow
    exact ⟨by rw [Go.Joins.cell_of_block e]; rfl, blk_lt e⟩
  have H2 : Hid (Sn w1 fb n (fun i => ((a ≤ i ∧ i < a) ∧ fr = true) ∨ (¬ (a ≤ i ∧ i < a) ∧ F i)) ∧ Kf (fun j => j = fb) w1 w1) := ⟨H1.congr (fun i => ⟨fun h => Or.inr ⟨by omega, h⟩, fun h => h.elim (fun h => by omega) (fun h => h.2)⟩), Kf.refl _ _⟩
  clear H1 ow lw ne lb
  go_wp2_with fail
  go_loopw [8] (fun v W => ∃ i : Nat, a ≤ i ∧ i ≤ a + m ∧ v = .int .i64 i ∧ Hid (Sn W fb n (fun x => ((a ≤ x ∧ x < i) ∧ fr = true) ∨ (¬ (a ≤ x ∧ x < i) ∧ F x)) ∧ Kf (fun j => j = fb) w1 W)) (fun v _ => a + m - (Go.RowKit.intOf v).toNat)
  case atStart => exact ⟨a, Nat.le_refl _, by omega, rfl, H2⟩
  case round =>
    clear H2
    obtain ⟨i, ai, im, rfl, hJ⟩ := hrel
    by_cases ci : i < a + m
    rotate_left
    · obtain rfl : i = a + m := by omega
      have d1 : decide (((a + m : Nat) : Int) < (a : Int) + (m : Int)) = false := by simp
      go_wp2_with fail
      go_end0
      exact ⟨rfl, hJ.out.1, KB.out.trans hJ.out.2⟩
    have d1 : decide ((i : Int) < (a : Int) + (m : Int)) = true := by simp; omega
    have d0 : decide ((i : Int) < 0) = false := by simp
    have d3 : decide ((i : Int) < (n : Int)) = true := by simp; omega
    obtain ⟨⟨v0, c0⟩, f0⟩ := hJ.out.1.there (i := i) (by omega)
    have lb := hJ.out.1.lt
    obtain ⟨cr, lr⟩ := CC.out _ hJ.out.2
    have NX : Hid (Sn (wr.setCell ⟨fb, i, none⟩ (.bool fr)) fb n (fun x => ((a ≤ x ∧ x < i + 1) ∧ fr = true) ∨ (¬ (a ≤ x ∧ x < i + 1) ∧ F x)) ∧ Kf (fun j => j = fb) w1 (wr.setCell ⟨fb, i, none⟩ (.bool fr))) := by
      refine ⟨hJ.out.1.put (by omega) fr (fun j hj => ?_) ?_, hJ.out.2.trans (Kf.set _ _ _ _ rfl)⟩
      · rw [show (a ≤ j ∧ j < i + 1) ↔ (a ≤ j ∧ j < i) by omega]
      · constructor
        · rintro (h | h)
          · exact h.2
          · exact absurd ⟨ai, Nat.lt_succ_self i⟩ h.1
        · intro h; exact Or.inl ⟨⟨ai, Nat.lt_succ_self i⟩, h⟩
    clear hJ
    go_wp2_with fail
    go_roundw
    case rel => exact ⟨i + 1, by omega, by omega, by go_num, NX⟩
    case measure => simp [Go.RowKit.intOf]; omega
theorem cnt_far {F : Nat → Prop} {n : Nat} (h : ∀ i, F i → i < n) : ∀ k, cnt F (n + k) = cnt F n
  | 0 => rfl
  | k + 1 => by
    rw [← Nat.add_assoc, cnt_no (fun f => by have := h _ f; omega)]
    exact cnt_far h k
set_option maxHeartbeats 1000000 in
theorem rcnt_any (fb n cf : Nat) (gv : Value) (F : Nat → Prop) (hF : ∀ i, F i → i < n) (n9 : n ≤ 1048576) (w : World) (H : Sn w fb n F) :
    Calls Try.prog 22 #[.agg #[.slice (some ⟨fb, 0, none⟩) n cf, gv]] w fun e w' => e = .returned (.int .i64 (cnt F 1048576 : Nat)) ∧ Below w.heap.size w w' := by
  have HH : Hid (Sn w fb n F) := H
  have lb := H.lt
  obtain ⟨S, hS⟩ : ∃ S : Nat → Nat, ∀ k, S k = cnt F k := ⟨fun k => cnt F k, fun _ => rfl⟩
  have E : cnt F 1048576 = S n := by
    rw [hS]
    have := cnt_far hF (1048576 - n)
    rw [show n + (1048576 - n) = 1048576 by omega] at this
    exact this
  rw [E]
  have S0 : Hid (S 0 = 0) := hS 0
  have SL : Hid (∀ k, S k ≤ k) := fun k => by rw [hS]; exact cnt_le F k
  have SY : Hid (∀ k, F k → S (k + 1) = S k + 1) := fun k h => by rw [hS, hS]; exact cnt_yes h
  have SN : Hid (∀ k, ¬ F k → S (k + 1) = S k) := fun k h => by rw [hS, hS]; exact cnt_no h
  clear H E hS hF
  go_enter Try.func22, Try.ntmps22
  go_wp2_with fail
  go_loopw [3, 5, 9] (fun va _ vi W => ∃ i : Nat, i ≤ n ∧ vi = .int .i64 i ∧ va = .int .i64 (S i) ∧ W = w.alloc (.cells #[.slice (some ⟨fb, 0, none⟩) n cf, gv] 35)) (fun _ _ vi _ => n - (Go.RowKit.intOf vi).toNat)
  case atStart => exact ⟨0, by omega, rfl, by rw [S0.out]; rfl, rfl⟩
  case round =>
    obtain ⟨i, hi, rfl, rfl, rfl⟩ := hrel
    by_cases ci : i < n
    rotate_left
    · obtain rfl : i = n := by omega
      have d1 : decide ((i : Int) < (i : Int)) = false := by simp
      go_wp2_with fail
      go_ret
      exact ⟨rfl, Go.Joins.below_alloc1 _ _⟩
    have d1 : decide ((i : Int) < (n : Int)) = true := by simp; omega
    have d0 : decide ((i : Int) < 0) = false := by simp
    have si := SL.out i
    by_cases fi : F i
    · have c0 := HH.out.yes (i := i) ci fi
      have E : Hid (S (i + 1) = S i + 1) := SY.out i fi
      clear fi
      go_wp2_with fail
      go_roundw
      case rel => exact ⟨i + 1, by omega, by go_num, by rw [E.out]; go_num, trivial⟩
      case measure => simp [Go.RowKit.intOf]; omega
    · have c0 := (HH.out.no (i := i) ci fi).1
      have E : Hid (S (i + 1) = S i) := SN.out i fi
      clear fi
      go_wp2_with fail
      go_roundw
      case rel => exact ⟨i + 1, by omega, by go_num, by rw [E.out], trivial⟩
      case measure => simp [Go.RowKit.intOf]; omega
end Go.Proofs.Ytpjejjonkdhelaa
