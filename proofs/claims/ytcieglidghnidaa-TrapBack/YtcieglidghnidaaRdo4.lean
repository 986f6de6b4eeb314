/- The document's answer for flt.Do, numbers as operands: it says what flt.Do's plain function says. -/
import Derived.Test.YtcieglidghnidaaRdo2
namespace Go.Proofs.Ytcieglidghnidaa
open Go.ChangeShapes Go.WideShapes Go.ChangeAt Go.RowKit
open FltM
set_option linter.unusedSimpArgs false
set_option linter.unusedVariables false

set_option maxRecDepth 100000 in
set_option maxHeartbeats 1000000 in
theorem rdo_div (a b : Int) (ha0 : 0 ≤ a) (ha1 : a < 18446744073709551616) (hb0 : 0 ≤ b) (hb1 : b < 18446744073709551616) (w : World)
    (n1 : ¬ 9218868437227405312 < rg a.toNat) (n2 : ¬ 9218868437227405312 < rg b.toNat) :
    Calls Try.prog 25 #[.int .i64 4, .int .u64 a, .int .u64 b] w fun e w' => e = .returned (.tuple #[.int .u64 (doR 4 a.toNat b.toNat : Nat), .int .i64 (doT 4 a.toNat b.toNat), .int .i64 (doE 4)]) ∧ ∃ n, w' = w.drewN n := by
  have hr0 : reck 4 a.toNat b.toNat = (Ieee.double.div a.toNat b.toNat).getD qnan := by
    unfold reck; rw [if_neg (by omega), if_neg (by decide), if_neg (by decide), if_neg (by decide), if_pos rfl]
  have hfb := frombits_run
  have hbt := bits_run
  have hcv := conv_run
  have hcq := cls_qn
  have s1 := sigs_no n1
  have s2 := sigs_no n2
  obtain ⟨r, n, hrun, hlt, hd⟩ := run_arith2 .quo (by simp) 65 a.toNat b.toNat w
  rcases hd with hd | ⟨hd, hn⟩
  · have hn : ¬ 9218868437227405312 < rg r := div_not_nan hd
    have hd' : Ieee.double.div a.toNat b.toNat = some r := hd
    have hr : reck 4 a.toNat b.toNat = r := by rw [hr0, hd']; rfl
    clear hd hd' hr0
    have qa := cls_no n1
    have qb := cls_no n2
    have qr := cls_no hn
    have pa := cls_not n1
    have pb := cls_not n2
    have ka := cls_n4 n1
    have kb := cls_n4 n2
    by_cases b0 : cls b.toNat = 0
    · skip
      rcases cls_range a.toNat with ca | ca | ca | ca | ca
      · skip
        by_cases i3 : cls r = 3
        · skip
          have e1 : Hid (doR 4 a.toNat b.toNat = r ∧ doT 4 a.toNat b.toNat = 4 ∧ doE 4 = 0) := do_of (by omega) (by omega) hr (by unfold tells; rw [if_neg (by simp [s1, s2]), if_neg (by simp only [cls_nan]; omega), if_neg (by simp only [cls_nan]; exact hn)]; rw [if_neg (by omega), if_pos (by omega)])
          clear ka kb hr hn n1 n2
          go_enter Try.func25, Try.ntmps25
          go_wp2_with (first | (go_at_call 31; refine (rclass_any _ ?_ ?_ _).mono ?_; omega; omega; rintro e w' ⟨rfl, rfl⟩) | (go_at_call_of 33 (Value.int IntKind.u64 a); refine (rsignals_any _ ha0 ha1 _).mono ?_; rintro e w' ⟨rfl, rfl⟩) | (go_at_call_of 33 (Value.int IntKind.u64 b); refine (rsignals_any _ hb0 hb1 _).mono ?_; rintro e w' ⟨rfl, rfl⟩) | (go_at_call 32; refine (rcompare_any _ _ ?_ ?_ ?_ ?_ _).mono ?_; omega; omega; omega; omega; rintro e w' ⟨rfl, rfl⟩))
          go_ret3
          exact ⟨ret3 (by rw [e1.out.1]; skip) e1.out.2.1.symm e1.out.2.2.symm, n, rfl⟩
        · have i3' : (cls r == 3) = false := beq_eq_false_iff_ne.2 i3
          have e1 : Hid (doR 4 a.toNat b.toNat = r ∧ doT 4 a.toNat b.toNat = 0 ∧ doE 4 = 0) := do_of (by omega) (by omega) hr (by unfold tells; rw [if_neg (by simp [s1, s2]), if_neg (by simp only [cls_nan]; omega), if_neg (by simp only [cls_nan]; exact hn)]; rw [if_neg (by omega), if_neg (by omega)])
          clear i3 ka kb hr hn n1 n2
          go_enter Try.func25, Try.ntmps25
          go_wp2_with (first | (go_at_call 31; refine (rclass_any _ ?_ ?_ _).mono ?_; omega; omega; rintro e w' ⟨rfl, rfl⟩) | (go_at_call_of 33 (Value.int IntKind.u64 a); refine (rsignals_any _ ha0 ha1 _).mono ?_; rintro e w' ⟨rfl, rfl⟩) | (go_at_call_of 33 (Value.int IntKind.u64 b); refine (rsignals_any _ hb0 hb1 _).mono ?_; rintro e w' ⟨rfl, rfl⟩) | (go_at_call 32; refine (rcompare_any _ _ ?_ ?_ ?_ ?_ _).mono ?_; omega; omega; omega; omega; rintro e w' ⟨rfl, rfl⟩))
          go_ret3
          exact ⟨ret3 (by rw [e1.out.1]; skip) e1.out.2.1.symm e1.out.2.2.symm, n, rfl⟩
      · skip
        have e1 : Hid (doR 4 a.toNat b.toNat = r ∧ doT 4 a.toNat b.toNat = 2 ∧ doE 4 = 0) := do_of (by omega) (by omega) hr (by unfold tells; rw [if_neg (by simp [s1, s2]), if_neg (by simp only [cls_nan]; omega), if_neg (by simp only [cls_nan]; exact hn)]; rw [if_pos (by omega)])
        clear ka kb hr hn n1 n2
        go_enter Try.func25, Try.ntmps25
        go_wp2_with (first | (go_at_call 31; refine (rclass_any _ ?_ ?_ _).mono ?_; omega; omega; rintro e w' ⟨rfl, rfl⟩) | (go_at_call_of 33 (Value.int IntKind.u64 a); refine (rsignals_any _ ha0 ha1 _).mono ?_; rintro e w' ⟨rfl, rfl⟩) | (go_at_call_of 33 (Value.int IntKind.u64 b); refine (rsignals_any _ hb0 hb1 _).mono ?_; rintro e w' ⟨rfl, rfl⟩) | (go_at_call 32; refine (rcompare_any _ _ ?_ ?_ ?_ ?_ _).mono ?_; omega; omega; omega; omega; rintro e w' ⟨rfl, rfl⟩))
        go_ret3
        exact ⟨ret3 (by rw [e1.out.1]; skip) e1.out.2.1.symm e1.out.2.2.symm, n, rfl⟩
      · skip
        have e1 : Hid (doR 4 a.toNat b.toNat = r ∧ doT 4 a.toNat b.toNat = 2 ∧ doE 4 = 0) := do_of (by omega) (by omega) hr (by unfold tells; rw [if_neg (by simp [s1, s2]), if_neg (by simp only [cls_nan]; omega), if_neg (by simp only [cls_nan]; exact hn)]; rw [if_pos (by omega)])
        clear ka kb hr hn n1 n2
        go_enter Try.func25, Try.ntmps25
        go_wp2_with (first | (go_at_call 31; refine (rclass_any _ ?_ ?_ _).mono ?_; omega; omega; rintro e w' ⟨rfl, rfl⟩) | (go_at_call_of 33 (Value.int IntKind.u64 a); refine (rsignals_any _ ha0 ha1 _).mono ?_; rintro e w' ⟨rfl, rfl⟩) | (go_at_call_of 33 (Value.int IntKind.u64 b); refine (rsignals_any _ hb0 hb1 _).mono ?_; rintro e w' ⟨rfl, rfl⟩) | (go_at_call 32; refine (rcompare_any _ _ ?_ ?_ ?_ ?_ _).mono ?_; omega; omega; omega; omega; rintro e w' ⟨rfl, rfl⟩))
        go_ret3
        exact ⟨ret3 (by rw [e1.out.1]; skip) e1.out.2.1.symm e1.out.2.2.symm, n, rfl⟩
      · skip
        by_cases i3 : cls r = 3
        · skip
          have e1 : Hid (doR 4 a.toNat b.toNat = r ∧ doT 4 a.toNat b.toNat = 0 ∧ doE 4 = 0) := do_of (by omega) (by omega) hr (by unfold tells; rw [if_neg (by simp [s1, s2]), if_neg (by simp only [cls_nan]; omega), if_neg (by simp only [cls_nan]; exact hn)]; rw [if_neg (by omega), if_neg (by omega)])
          clear ka kb hr hn n1 n2
          go_enter Try.func25, Try.ntmps25
          go_wp2_with (first | (go_at_call 31; refine (rclass_any _ ?_ ?_ _).mono ?_; omega; omega; rintro e w' ⟨rfl, rfl⟩) | (go_at_call_of 33 (Value.int IntKind.u64 a); refine (rsignals_any _ ha0 ha1 _).mono ?_; rintro e w' ⟨rfl, rfl⟩) | (go_at_call_of 33 (Value.int IntKind.u64 b); refine (rsignals_any _ hb0 hb1 _).mono ?_; rintro e w' ⟨rfl, rfl⟩) | (go_at_call 32; refine (rcompare_any _ _ ?_ ?_ ?_ ?_ _).mono ?_; omega; omega; omega; omega; rintro e w' ⟨rfl, rfl⟩))
          go_ret3
          exact ⟨ret3 (by rw [e1.out.1]; skip) e1.out.2.1.symm e1.out.2.2.symm, n, rfl⟩
        · have i3' : (cls r == 3) = false := beq_eq_false_iff_ne.2 i3
          have e1 : Hid (doR 4 a.toNat b.toNat = r ∧ doT 4 a.toNat b.toNat = 0 ∧ doE 4 = 0) := do_of (by omega) (by omega) hr (by unfold tells; rw [if_neg (by simp [s1, s2]), if_neg (by simp only [cls_nan]; omega), if_neg (by simp only [cls_nan]; exact hn)]; rw [if_neg (by omega), if_neg (by omega)])
          clear i3 ka kb hr hn n1 n2
          go_enter Try.func25, Try.ntmps25
          go_wp2_with (first | (go_at_call 31; refine (rclass_any _ ?_ ?_ _).mono ?_; omega; omega; rintro e w' ⟨rfl, rfl⟩) | (go_at_call_of 33 (Value.int IntKind.u64 a); refine (rsignals_any _ ha0 ha1 _).mono ?_; rintro e w' ⟨rfl, rfl⟩) | (go_at_call_of 33 (Value.int IntKind.u64 b); refine (rsignals_any _ hb0 hb1 _).mono ?_; rintro e w' ⟨rfl, rfl⟩) | (go_at_call 32; refine (rcompare_any _ _ ?_ ?_ ?_ ?_ _).mono ?_; omega; omega; omega; omega; rintro e w' ⟨rfl, rfl⟩))
          go_ret3
          exact ⟨ret3 (by rw [e1.out.1]; skip) e1.out.2.1.symm e1.out.2.2.symm, n, rfl⟩
      · exact absurd ca ka
    · have b0' : (cls b.toNat == 0) = false := beq_eq_false_iff_ne.2 b0
      rcases cls_range a.toNat with ca | ca | ca | ca | ca
      · skip
        by_cases i3 : cls r = 3
        · skip
          by_cases j2 : cls b.toNat < 3
          · skip
            have e1 : Hid (doR 4 a.toNat b.toNat = r ∧ doT 4 a.toNat b.toNat = 4 ∧ doE 4 = 0) := do_of (by omega) (by omega) hr (by unfold tells; rw [if_neg (by simp [s1, s2]), if_neg (by simp only [cls_nan]; omega), if_neg (by simp only [cls_nan]; exact hn)]; rw [if_neg (by omega), if_pos (by omega)])
            clear ka kb b0 hr hn n1 n2
            go_enter Try.func25, Try.ntmps25
            go_wp2_with (first | (go_at_call 31; refine (rclass_any _ ?_ ?_ _).mono ?_; omega; omega; rintro e w' ⟨rfl, rfl⟩) | (go_at_call_of 33 (Value.int IntKind.u64 a); refine (rsignals_any _ ha0 ha1 _).mono ?_; rintro e w' ⟨rfl, rfl⟩) | (go_at_call_of 33 (Value.int IntKind.u64 b); refine (rsignals_any _ hb0 hb1 _).mono ?_; rintro e w' ⟨rfl, rfl⟩) | (go_at_call 32; refine (rcompare_any _ _ ?_ ?_ ?_ ?_ _).mono ?_; omega; omega; omega; omega; rintro e w' ⟨rfl, rfl⟩))
            go_ret3
            exact ⟨ret3 (by rw [e1.out.1]; skip) e1.out.2.1.symm e1.out.2.2.symm, n, rfl⟩
          · skip
            have e1 : Hid (doR 4 a.toNat b.toNat = r ∧ doT 4 a.toNat b.toNat = 0 ∧ doE 4 = 0) := do_of (by omega) (by omega) hr (by unfold tells; rw [if_neg (by simp [s1, s2]), if_neg (by simp only [cls_nan]; omega), if_neg (by simp only [cls_nan]; exact hn)]; rw [if_neg (by omega), if_neg (by have := cls_range b.toNat; omega)])
            clear ka kb b0 hr hn n1 n2
            go_enter Try.func25, Try.ntmps25
            go_wp2_with (first | (go_at_call 31; refine (rclass_any _ ?_ ?_ _).mono ?_; omega; omega; rintro e w' ⟨rfl, rfl⟩) | (go_at_call_of 33 (Value.int IntKind.u64 a); refine (rsignals_any _ ha0 ha1 _).mono ?_; rintro e w' ⟨rfl, rfl⟩) | (go_at_call_of 33 (Value.int IntKind.u64 b); refine (rsignals_any _ hb0 hb1 _).mono ?_; rintro e w' ⟨rfl, rfl⟩) | (go_at_call 32; refine (rcompare_any _ _ ?_ ?_ ?_ ?_ _).mono ?_; omega; omega; omega; omega; rintro e w' ⟨rfl, rfl⟩))
            go_ret3
            exact ⟨ret3 (by rw [e1.out.1]; skip) e1.out.2.1.symm e1.out.2.2.symm, n, rfl⟩
        · have i3' : (cls r == 3) = false := beq_eq_false_iff_ne.2 i3
          have e1 : Hid (doR 4 a.toNat b.toNat = r ∧ doT 4 a.toNat b.toNat = 0 ∧ doE 4 = 0) := do_of (by omega) (by omega) hr (by unfold tells; rw [if_neg (by simp [s1, s2]), if_neg (by simp only [cls_nan]; omega), if_neg (by simp only [cls_nan]; exact hn)]; rw [if_neg (by omega), if_neg (by omega)])
          clear i3 ka kb b0 hr hn n1 n2
          go_enter Try.func25, Try.ntmps25
          go_wp2_with (first | (go_at_call 31; refine (rclass_any _ ?_ ?_ _).mono ?_; omega; omega; rintro e w' ⟨rfl, rfl⟩) | (go_at_call_of 33 (Value.int IntKind.u64 a); refine (rsignals_any _ ha0 ha1 _).mono ?_; rintro e w' ⟨rfl, rfl⟩) | (go_at_call_of 33 (Value.int IntKind.u64 b); refine (rsignals_any _ hb0 hb1 _).mono ?_; rintro e w' ⟨rfl, rfl⟩) | (go_at_call 32; refine (rcompare_any _ _ ?_ ?_ ?_ ?_ _).mono ?_; omega; omega; omega; omega; rintro e w' ⟨rfl, rfl⟩))
          go_ret3
          exact ⟨ret3 (by rw [e1.out.1]; skip) e1.out.2.1.symm e1.out.2.2.symm, n, rfl⟩
      · skip
        by_cases i3 : cls r = 3
        · skip
          by_cases j2 : cls b.toNat < 3
          · skip
            have e1 : Hid (doR 4 a.toNat b.toNat = r ∧ doT 4 a.toNat b.toNat = 4 ∧ doE 4 = 0) := do_of (by omega) (by omega) hr (by unfold tells; rw [if_neg (by simp [s1, s2]), if_neg (by simp only [cls_nan]; omega), if_neg (by simp only [cls_nan]; exact hn)]; rw [if_neg (by omega), if_pos (by omega)])
            clear ka kb b0 hr hn n1 n2
            go_enter Try.func25, Try.ntmps25
            go_wp2_with (first | (go_at_call 31; refine (rclass_any _ ?_ ?_ _).mono ?_; omega; omega; rintro e w' ⟨rfl, rfl⟩) | (go_at_call_of 33 (Value.int IntKind.u64 a); refine (rsignals_any _ ha0 ha1 _).mono ?_; rintro e w' ⟨rfl, rfl⟩) | (go_at_call_of 33 (Value.int IntKind.u64 b); refine (rsignals_any _ hb0 hb1 _).mono ?_; rintro e w' ⟨rfl, rfl⟩) | (go_at_call 32; refine (rcompare_any _ _ ?_ ?_ ?_ ?_ _).mono ?_; omega; omega; omega; omega; rintro e w' ⟨rfl, rfl⟩))
            go_ret3
            exact ⟨ret3 (by rw [e1.out.1]; skip) e1.out.2.1.symm e1.out.2.2.symm, n, rfl⟩
          · skip
            have e1 : Hid (doR 4 a.toNat b.toNat = r ∧ doT 4 a.toNat b.toNat = 0 ∧ doE 4 = 0) := do_of (by omega) (by omega) hr (by unfold tells; rw [if_neg (by simp [s1, s2]), if_neg (by simp only [cls_nan]; omega), if_neg (by simp only [cls_nan]; exact hn)]; rw [if_neg (by omega), if_neg (by have := cls_range b.toNat; omega)])
            clear ka kb b0 hr hn n1 n2
            go_enter Try.func25, Try.ntmps25
            go_wp2_with (first | (go_at_call 31; refine (rclass_any _ ?_ ?_ _).mono ?_; omega; omega; rintro e w' ⟨rfl, rfl⟩) | (go_at_call_of 33 (Value.int IntKind.u64 a); refine (rsignals_any _ ha0 ha1 _).mono ?_; rintro e w' ⟨rfl, rfl⟩) | (go_at_call_of 33 (Value.int IntKind.u64 b); refine (rsignals_any _ hb0 hb1 _).mono ?_; rintro e w' ⟨rfl, rfl⟩) | (go_at_call 32; refine (rcompare_any _ _ ?_ ?_ ?_ ?_ _).mono ?_; omega; omega; omega; omega; rintro e w' ⟨rfl, rfl⟩))
            go_ret3
            exact ⟨ret3 (by rw [e1.out.1]; skip) e1.out.2.1.symm e1.out.2.2.symm, n, rfl⟩
        · have i3' : (cls r == 3) = false := beq_eq_false_iff_ne.2 i3
          have e1 : Hid (doR 4 a.toNat b.toNat = r ∧ doT 4 a.toNat b.toNat = 0 ∧ doE 4 = 0) := do_of (by omega) (by omega) hr (by unfold tells; rw [if_neg (by simp [s1, s2]), if_neg (by simp only [cls_nan]; omega), if_neg (by simp only [cls_nan]; exact hn)]; rw [if_neg (by omega), if_neg (by omega)])
          clear i3 ka kb b0 hr hn n1 n2
          go_enter Try.func25, Try.ntmps25
          go_wp2_with (first | (go_at_call 31; refine (rclass_any _ ?_ ?_ _).mono ?_; omega; omega; rintro e w' ⟨rfl, rfl⟩) | (go_at_call_of 33 (Value.int IntKind.u64 a); refine (rsignals_any _ ha0 ha1 _).mono ?_; rintro e w' ⟨rfl, rfl⟩) | (go_at_call_of 33 (Value.int IntKind.u64 b); refine (rsignals_any _ hb0 hb1 _).mono ?_; rintro e w' ⟨rfl, rfl⟩) | (go_at_call 32; refine (rcompare_any _ _ ?_ ?_ ?_ ?_ _).mono ?_; omega; omega; omega; omega; rintro e w' ⟨rfl, rfl⟩))
          go_ret3
          exact ⟨ret3 (by rw [e1.out.1]; skip) e1.out.2.1.symm e1.out.2.2.symm, n, rfl⟩
      · skip
        by_cases i3 : cls r = 3
        · skip
          by_cases j2 : cls b.toNat < 3
          · skip
            have e1 : Hid (doR 4 a.toNat b.toNat = r ∧ doT 4 a.toNat b.toNat = 4 ∧ doE 4 = 0) := do_of (by omega) (by omega) hr (by unfold tells; rw [if_neg (by simp [s1, s2]), if_neg (by simp only [cls_nan]; omega), if_neg (by simp only [cls_nan]; exact hn)]; rw [if_neg (by omega), if_pos (by omega)])
            clear ka kb b0 hr hn n1 n2
            go_enter Try.func25, Try.ntmps25
            go_wp2_with (first | (go_at_call 31; refine (rclass_any _ ?_ ?_ _).mono ?_; omega; omega; rintro e w' ⟨rfl, rfl⟩) | (go_at_call_of 33 (Value.int IntKind.u64 a); refine (rsignals_any _ ha0 ha1 _).mono ?_; rintro e w' ⟨rfl, rfl⟩) | (go_at_call_of 33 (Value.int IntKind.u64 b); refine (rsignals_any _ hb0 hb1 _).mono ?_; rintro e w' ⟨rfl, rfl⟩) | (go_at_call 32; refine (rcompare_any _ _ ?_ ?_ ?_ ?_ _).mono ?_; omega; omega; omega; omega; rintro e w' ⟨rfl, rfl⟩))
            go_ret3
            exact ⟨ret3 (by rw [e1.out.1]; skip) e1.out.2.1.symm e1.out.2.2.symm, n, rfl⟩
          · skip
            have e1 : Hid (doR 4 a.toNat b.toNat = r ∧ doT 4 a.toNat b.toNat = 0 ∧ doE 4 = 0) := do_of (by omega) (by omega) hr (by unfold tells; rw [if_neg (by simp [s1, s2]), if_neg (by simp only [cls_nan]; omega), if_neg (by simp only [cls_nan]; exact hn)]; rw [if_neg (by omega), if_neg (by have := cls_range b.toNat; omega)])
            clear ka kb b0 hr hn n1 n2
            go_enter Try.func25, Try.ntmps25
            go_wp2_with (first | (go_at_call 31; refine (rclass_any _ ?_ ?_ _).mono ?_; omega; omega; rintro e w' ⟨rfl, rfl⟩) | (go_at_call_of 33 (Value.int IntKind.u64 a); refine (rsignals_any _ ha0 ha1 _).mono ?_; rintro e w' ⟨rfl, rfl⟩) | (go_at_call_of 33 (Value.int IntKind.u64 b); refine (rsignals_any _ hb0 hb1 _).mono ?_; rintro e w' ⟨rfl, rfl⟩) | (go_at_call 32; refine (rcompare_any _ _ ?_ ?_ ?_ ?_ _).mono ?_; omega; omega; omega; omega; rintro e w' ⟨rfl, rfl⟩))
            go_ret3
            exact ⟨ret3 (by rw [e1.out.1]; skip) e1.out.2.1.symm e1.out.2.2.symm, n, rfl⟩
        · have i3' : (cls r == 3) = false := beq_eq_false_iff_ne.2 i3
          have e1 : Hid (doR 4 a.toNat b.toNat = r ∧ doT 4 a.toNat b.toNat = 0 ∧ doE 4 = 0) := do_of (by omega) (by omega) hr (by unfold tells; rw [if_neg (by simp [s1, s2]), if_neg (by simp only [cls_nan]; omega), if_neg (by simp only [cls_nan]; exact hn)]; rw [if_neg (by omega), if_neg (by omega)])
          clear i3 ka kb b0 hr hn n1 n2
          go_enter Try.func25, Try.ntmps25
          go_wp2_with (first | (go_at_call 31; refine (rclass_any _ ?_ ?_ _).mono ?_; omega; omega; rintro e w' ⟨rfl, rfl⟩) | (go_at_call_of 33 (Value.int IntKind.u64 a); refine (rsignals_any _ ha0 ha1 _).mono ?_; rintro e w' ⟨rfl, rfl⟩) | (go_at_call_of 33 (Value.int IntKind.u64 b); refine (rsignals_any _ hb0 hb1 _).mono ?_; rintro e w' ⟨rfl, rfl⟩) | (go_at_call 32; refine (rcompare_any _ _ ?_ ?_ ?_ ?_ _).mono ?_; omega; omega; omega; omega; rintro e w' ⟨rfl, rfl⟩))
          go_ret3
          exact ⟨ret3 (by rw [e1.out.1]; skip) e1.out.2.1.symm e1.out.2.2.symm, n, rfl⟩
      · skip
        by_cases i3 : cls r = 3
        · skip
          have e1 : Hid (doR 4 a.toNat b.toNat = r ∧ doT 4 a.toNat b.toNat = 0 ∧ doE 4 = 0) := do_of (by omega) (by omega) hr (by unfold tells; rw [if_neg (by simp [s1, s2]), if_neg (by simp only [cls_nan]; omega), if_neg (by simp only [cls_nan]; exact hn)]; rw [if_neg (by omega), if_neg (by omega)])
          clear ka kb hr hn n1 n2
          go_enter Try.func25, Try.ntmps25
          go_wp2_with (first | (go_at_call 31; refine (rclass_any _ ?_ ?_ _).mono ?_; omega; omega; rintro e w' ⟨rfl, rfl⟩) | (go_at_call_of 33 (Value.int IntKind.u64 a); refine (rsignals_any _ ha0 ha1 _).mono ?_; rintro e w' ⟨rfl, rfl⟩) | (go_at_call_of 33 (Value.int IntKind.u64 b); refine (rsignals_any _ hb0 hb1 _).mono ?_; rintro e w' ⟨rfl, rfl⟩) | (go_at_call 32; refine (rcompare_any _ _ ?_ ?_ ?_ ?_ _).mono ?_; omega; omega; omega; omega; rintro e w' ⟨rfl, rfl⟩))
          go_ret3
          exact ⟨ret3 (by rw [e1.out.1]; skip) e1.out.2.1.symm e1.out.2.2.symm, n, rfl⟩
        · have i3' : (cls r == 3) = false := beq_eq_false_iff_ne.2 i3
          have e1 : Hid (doR 4 a.toNat b.toNat = r ∧ doT 4 a.toNat b.toNat = 0 ∧ doE 4 = 0) := do_of (by omega) (by omega) hr (by unfold tells; rw [if_neg (by simp [s1, s2]), if_neg (by simp only [cls_nan]; omega), if_neg (by simp only [cls_nan]; exact hn)]; rw [if_neg (by omega), if_neg (by omega)])
          clear i3 ka kb b0 hr hn n1 n2
          go_enter Try.func25, Try.ntmps25
          go_wp2_with (first | (go_at_call 31; refine (rclass_any _ ?_ ?_ _).mono ?_; omega; omega; rintro e w' ⟨rfl, rfl⟩) | (go_at_call_of 33 (Value.int IntKind.u64 a); refine (rsignals_any _ ha0 ha1 _).mono ?_; rintro e w' ⟨rfl, rfl⟩) | (go_at_call_of 33 (Value.int IntKind.u64 b); refine (rsignals_any _ hb0 hb1 _).mono ?_; rintro e w' ⟨rfl, rfl⟩) | (go_at_call 32; refine (rcompare_any _ _ ?_ ?_ ?_ ?_ _).mono ?_; omega; omega; omega; omega; rintro e w' ⟨rfl, rfl⟩))
          go_ret3
          exact ⟨ret3 (by rw [e1.out.1]; skip) e1.out.2.1.symm e1.out.2.2.symm, n, rfl⟩
      · exact absurd ca ka
  · have hd' : Ieee.double.div a.toNat b.toNat = none := hd
    have hr : reck 4 a.toNat b.toNat = qnan := by rw [hr0, hd']; rfl
    have cr : cls r = 4 := (cls_nan _).2 hn
    have qa := cls_no n1
    have qb := cls_no n2
    have pa := cls_not n1
    have pb := cls_not n2
    have e1 : Hid (doR 4 a.toNat b.toNat = qnan ∧ doT 4 a.toNat b.toNat = 1 ∧ doE 4 = 0) := do_of (by omega) (by omega) hr (by unfold tells; rw [if_neg (by simp [s1, s2]), if_neg (by simp only [cls_nan]; omega), if_pos (show cls qnan = 4 from cls_qnan)])
    clear hd hd' hr0 hr hn n1 n2
    go_enter Try.func25, Try.ntmps25
    go_wp2_with (first | (go_at_call 31; refine (rclass_any _ ?_ ?_ _).mono ?_; omega; omega; rintro e w' ⟨rfl, rfl⟩) | (go_at_call_of 33 (Value.int IntKind.u64 a); refine (rsignals_any _ ha0 ha1 _).mono ?_; rintro e w' ⟨rfl, rfl⟩) | (go_at_call_of 33 (Value.int IntKind.u64 b); refine (rsignals_any _ hb0 hb1 _).mono ?_; rintro e w' ⟨rfl, rfl⟩) | (go_at_call 32; refine (rcompare_any _ _ ?_ ?_ ?_ ?_ _).mono ?_; omega; omega; omega; omega; rintro e w' ⟨rfl, rfl⟩))
    go_ret3
    exact ⟨ret3 (by rw [e1.out.1]; rfl) e1.out.2.1.symm e1.out.2.2.symm, n, rfl⟩
end Go.Proofs.Ytcieglidghnidaa
