/- The document's answer for flt.Do, numbers as operands: it says what flt.Do's plain function says. -/
import Derived.Test.YtcieglidghnidaaRdo2
namespace Go.Proofs.Ytcieglidghnidaa
open Go.ChangeShapes Go.WideShapes Go.ChangeAt Go.RowKit
open FltM
set_option linter.unusedSimpArgs false
set_option linter.unusedVariables false

theorem minF_b {a b : Int} (ha0 : 0 ≤ a) (ha1 : a < 18446744073709551616) (hb0 : 0 ≤ b) (hb1 : b < 18446744073709551616) (c1 : ¬ key a.toNat < key b.toNat) (c2 : ¬ key b.toNat < key a.toNat) (sb : b / 9223372036854775808 = 1) : minF a.toNat b.toNat = b.toNat := by
  unfold minF; rw [if_neg c1, if_neg c2]
  have ka := key_eq a ha0 ha1
  have kb := key_eq b hb0 hb1
  split
  · rename_i h
    have hs : a / 9223372036854775808 = 1 := by unfold sg at h; rw [beq_iff_eq] at h; omega
    rw [if_pos hs] at ka
    rw [if_pos sb] at kb; omega
  · rename_i h
    have hs : ¬ a / 9223372036854775808 = 1 := by unfold sg at h; rw [beq_iff_eq] at h; omega
    rw [if_neg hs] at ka
theorem minF_a {a b : Int} (ha0 : 0 ≤ a) (ha1 : a < 18446744073709551616) (hb0 : 0 ≤ b) (hb1 : b < 18446744073709551616) (c1 : ¬ key a.toNat < key b.toNat) (c2 : ¬ key b.toNat < key a.toNat) (sb : ¬ b / 9223372036854775808 = 1) : minF a.toNat b.toNat = a.toNat := by
  unfold minF; rw [if_neg c1, if_neg c2]
  have ka := key_eq a ha0 ha1
  have kb := key_eq b hb0 hb1
  split
  · rename_i h
    have hs : a / 9223372036854775808 = 1 := by unfold sg at h; rw [beq_iff_eq] at h; omega
    rw [if_pos hs] at ka
  · rename_i h
    have hs : ¬ a / 9223372036854775808 = 1 := by unfold sg at h; rw [beq_iff_eq] at h; omega
    rw [if_neg hs] at ka
    rw [if_neg sb] at kb; omega

set_option maxRecDepth 100000 in
set_option maxHeartbeats 1000000 in
theorem rdo_min (a b : Int) (ha0 : 0 ≤ a) (ha1 : a < 18446744073709551616) (hb0 : 0 ≤ b) (hb1 : b < 18446744073709551616) (w : World)
    (n1 : ¬ 9218868437227405312 < rg a.toNat) (n2 : ¬ 9218868437227405312 < rg b.toNat) :
    Calls Try.prog 25 #[.int .i64 5, .int .u64 a, .int .u64 b] w fun e w' => e = .returned (.tuple #[.int .u64 (doR 5 a.toNat b.toNat : Nat), .int .i64 (doT 5 a.toNat b.toNat), .int .i64 (doE 5)]) ∧ ∃ n, w' = w.drewN n := by
  have hr0 : reck 5 a.toNat b.toNat = minF a.toNat b.toNat := by
    unfold reck; rw [if_neg (by omega), if_neg (by decide), if_neg (by decide), if_neg (by decide), if_neg (by decide), if_pos rfl]
  have hfb := frombits_run
  have hbt := bits_run
  have hcv := conv_run
  have hcq := cls_qn
  have s1 := sigs_no n1
  have s2 := sigs_no n2
  have c0 : ¬ (9218868437227405312 < rg a.toNat ∨ 9218868437227405312 < rg b.toNat) := by omega
  have c0' : ¬ (9218868437227405312 < rg b.toNat ∨ 9218868437227405312 < rg a.toNat) := by omega
  by_cases c1 : key a.toNat < key b.toNat
  · have hr : reck 5 a.toNat b.toNat = a.toNat := by rw [hr0]; unfold minF; rw [if_pos c1]
    have hn : ¬ 9218868437227405312 < rg a.toNat := n1
    have m1 : cmpF a.toNat b.toNat = -1 := by unfold cmpF; rw [if_neg c0, if_pos c1]
    have m2 : cmpF b.toNat a.toNat = 1 := by unfold cmpF; rw [if_neg c0', if_neg (by omega), if_pos c1]
    clear c0 c0' c1 hr0
    have qa := cls_no n1
    have qb := cls_no n2
    have qr := cls_no hn
    have pa := cls_not n1
    have pb := cls_not n2
    by_cases i3 : cls a.toNat = 3
    · by_cases i1 : cls a.toNat < 3
      · by_cases i2 : cls b.toNat < 3
        · omega
        · omega
      · skip
        have e1 : Hid (doR 5 a.toNat b.toNat = a.toNat ∧ doT 5 a.toNat b.toNat = 0 ∧ doE 5 = 0) := do_of (by omega) (by omega) hr (by unfold tells; rw [if_neg (by simp [s1, s2]), if_neg (by simp only [cls_nan]; omega), if_neg (by simp only [cls_nan]; exact hn)]; rw [if_neg (by omega), if_neg (by have := cls_range a.toNat; have := cls_n4 n1; omega)])
        clear hr hn n1 n2
        go_enter Try.func25, Try.ntmps25
        go_wp2_with (first | (go_at_call 31; refine (rclass_any _ ?_ ?_ _).mono ?_; omega; omega; rintro e w' ⟨rfl, rfl⟩) | (go_at_call_of 33 (Value.int IntKind.u64 a); refine (rsignals_any _ ha0 ha1 _).mono ?_; rintro e w' ⟨rfl, rfl⟩) | (go_at_call_of 33 (Value.int IntKind.u64 b); refine (rsignals_any _ hb0 hb1 _).mono ?_; rintro e w' ⟨rfl, rfl⟩) | (go_at_call 32; refine (rcompare_any _ _ ?_ ?_ ?_ ?_ _).mono ?_; omega; omega; omega; omega; rintro e w' ⟨rfl, rfl⟩))
        go_ret3
        exact ⟨ret3 (by rw [e1.out.1]; exact (Int.toNat_of_nonneg (by omega)).symm) e1.out.2.1.symm e1.out.2.2.symm, 0, rfl⟩
    · have i3' : (cls a.toNat == 3) = false := beq_eq_false_iff_ne.2 i3
      have e1 : Hid (doR 5 a.toNat b.toNat = a.toNat ∧ doT 5 a.toNat b.toNat = 0 ∧ doE 5 = 0) := do_of (by omega) (by omega) hr (by unfold tells; rw [if_neg (by simp [s1, s2]), if_neg (by simp only [cls_nan]; omega), if_neg (by simp only [cls_nan]; exact hn)]; rw [if_neg (by omega), if_neg (by omega)])
      clear i3 hr hn n1 n2
      go_enter Try.func25, Try.ntmps25
      go_wp2_with (first | (go_at_call 31; refine (rclass_any _ ?_ ?_ _).mono ?_; omega; omega; rintro e w' ⟨rfl, rfl⟩) | (go_at_call_of 33 (Value.int IntKind.u64 a); refine (rsignals_any _ ha0 ha1 _).mono ?_; rintro e w' ⟨rfl, rfl⟩) | (go_at_call_of 33 (Value.int IntKind.u64 b); refine (rsignals_any _ hb0 hb1 _).mono ?_; rintro e w' ⟨rfl, rfl⟩) | (go_at_call 32; refine (rcompare_any _ _ ?_ ?_ ?_ ?_ _).mono ?_; omega; omega; omega; omega; rintro e w' ⟨rfl, rfl⟩))
      go_ret3
      exact ⟨ret3 (by rw [e1.out.1]; exact (Int.toNat_of_nonneg (by omega)).symm) e1.out.2.1.symm e1.out.2.2.symm, 0, rfl⟩
  · by_cases c2 : key b.toNat < key a.toNat
    · have hr : reck 5 a.toNat b.toNat = b.toNat := by rw [hr0]; unfold minF; rw [if_neg c1, if_pos c2]
      have hn : ¬ 9218868437227405312 < rg b.toNat := n2
      have m1 : cmpF a.toNat b.toNat = 1 := by unfold cmpF; rw [if_neg c0, if_neg c1, if_pos c2]
      have m2 : cmpF b.toNat a.toNat = -1 := by unfold cmpF; rw [if_neg c0', if_pos c2]
      clear c0 c0' c1 c2 hr0
      have qa := cls_no n1
      have qb := cls_no n2
      have qr := cls_no hn
      have pa := cls_not n1
      have pb := cls_not n2
      by_cases i3 : cls b.toNat = 3
      · by_cases i1 : cls a.toNat < 3
        · by_cases i2 : cls b.toNat < 3
          · omega
          · skip
            have e1 : Hid (doR 5 a.toNat b.toNat = b.toNat ∧ doT 5 a.toNat b.toNat = 0 ∧ doE 5 = 0) := do_of (by omega) (by omega) hr (by unfold tells; rw [if_neg (by simp [s1, s2]), if_neg (by simp only [cls_nan]; omega), if_neg (by simp only [cls_nan]; exact hn)]; rw [if_neg (by omega), if_neg (by have := cls_range b.toNat; have := cls_n4 n2; omega)])
            clear hr hn n1 n2
            go_enter Try.func25, Try.ntmps25
            go_wp2_with (first | (go_at_call 31; refine (rclass_any _ ?_ ?_ _).mono ?_; omega; omega; rintro e w' ⟨rfl, rfl⟩) | (go_at_call_of 33 (Value.int IntKind.u64 a); refine (rsignals_any _ ha0 ha1 _).mono ?_; rintro e w' ⟨rfl, rfl⟩) | (go_at_call_of 33 (Value.int IntKind.u64 b); refine (rsignals_any _ hb0 hb1 _).mono ?_; rintro e w' ⟨rfl, rfl⟩) | (go_at_call 32; refine (rcompare_any _ _ ?_ ?_ ?_ ?_ _).mono ?_; omega; omega; omega; omega; rintro e w' ⟨rfl, rfl⟩))
            go_ret3
            exact ⟨ret3 (by rw [e1.out.1]; exact (Int.toNat_of_nonneg (by omega)).symm) e1.out.2.1.symm e1.out.2.2.symm, 0, rfl⟩
        · skip
          have e1 : Hid (doR 5 a.toNat b.toNat = b.toNat ∧ doT 5 a.toNat b.toNat = 0 ∧ doE 5 = 0) := do_of (by omega) (by omega) hr (by unfold tells; rw [if_neg (by simp [s1, s2]), if_neg (by simp only [cls_nan]; omega), if_neg (by simp only [cls_nan]; exact hn)]; rw [if_neg (by omega), if_neg (by have := cls_range a.toNat; have := cls_n4 n1; omega)])
          clear hr hn n1 n2
          go_enter Try.func25, Try.ntmps25
          go_wp2_with (first | (go_at_call 31; refine (rclass_any _ ?_ ?_ _).mono ?_; omega; omega; rintro e w' ⟨rfl, rfl⟩) | (go_at_call_of 33 (Value.int IntKind.u64 a); refine (rsignals_any _ ha0 ha1 _).mono ?_; rintro e w' ⟨rfl, rfl⟩) | (go_at_call_of 33 (Value.int IntKind.u64 b); refine (rsignals_any _ hb0 hb1 _).mono ?_; rintro e w' ⟨rfl, rfl⟩) | (go_at_call 32; refine (rcompare_any _ _ ?_ ?_ ?_ ?_ _).mono ?_; omega; omega; omega; omega; rintro e w' ⟨rfl, rfl⟩))
          go_ret3
          exact ⟨ret3 (by rw [e1.out.1]; exact (Int.toNat_of_nonneg (by omega)).symm) e1.out.2.1.symm e1.out.2.2.symm, 0, rfl⟩
      · have i3' : (cls b.toNat == 3) = false := beq_eq_false_iff_ne.2 i3
        have e1 : Hid (doR 5 a.toNat b.toNat = b.toNat ∧ doT 5 a.toNat b.toNat = 0 ∧ doE 5 = 0) := do_of (by omega) (by omega) hr (by unfold tells; rw [if_neg (by simp [s1, s2]), if_neg (by simp only [cls_nan]; omega), if_neg (by simp only [cls_nan]; exact hn)]; rw [if_neg (by omega), if_neg (by omega)])
        clear i3 hr hn n1 n2
        go_enter Try.func25, Try.ntmps25
        go_wp2_with (first | (go_at_call 31; refine (rclass_any _ ?_ ?_ _).mono ?_; omega; omega; rintro e w' ⟨rfl, rfl⟩) | (go_at_call_of 33 (Value.int IntKind.u64 a); refine (rsignals_any _ ha0 ha1 _).mono ?_; rintro e w' ⟨rfl, rfl⟩) | (go_at_call_of 33 (Value.int IntKind.u64 b); refine (rsignals_any _ hb0 hb1 _).mono ?_; rintro e w' ⟨rfl, rfl⟩) | (go_at_call 32; refine (rcompare_any _ _ ?_ ?_ ?_ ?_ _).mono ?_; omega; omega; omega; omega; rintro e w' ⟨rfl, rfl⟩))
        go_ret3
        exact ⟨ret3 (by rw [e1.out.1]; exact (Int.toNat_of_nonneg (by omega)).symm) e1.out.2.1.symm e1.out.2.2.symm, 0, rfl⟩
    · have m1 : cmpF a.toNat b.toNat = 0 := by unfold cmpF; rw [if_neg c0, if_neg c1, if_neg c2]
      have m2 : cmpF b.toNat a.toNat = 0 := by unfold cmpF; rw [if_neg c0', if_neg c2, if_neg c1]
      by_cases sb : b / 9223372036854775808 = 1
      · have hr : reck 5 a.toNat b.toNat = b.toNat := by rw [hr0]; exact minF_b ha0 ha1 hb0 hb1 c1 c2 sb
        have hn : ¬ 9218868437227405312 < rg b.toNat := n2
        have sb' : (b / 9223372036854775808 == 1) = true := beq_iff_eq.2 sb
        clear c0 c0' c1 c2 hr0 sb
        have qa := cls_no n1
        have qb := cls_no n2
        have qr := cls_no hn
        have pa := cls_not n1
        have pb := cls_not n2
        by_cases i3 : cls b.toNat = 3
        · by_cases i1 : cls a.toNat < 3
          · by_cases i2 : cls b.toNat < 3
            · omega
            · skip
              have e1 : Hid (doR 5 a.toNat b.toNat = b.toNat ∧ doT 5 a.toNat b.toNat = 0 ∧ doE 5 = 0) := do_of (by omega) (by omega) hr (by unfold tells; rw [if_neg (by simp [s1, s2]), if_neg (by simp only [cls_nan]; omega), if_neg (by simp only [cls_nan]; exact hn)]; rw [if_neg (by omega), if_neg (by have := cls_range b.toNat; have := cls_n4 n2; omega)])
              clear hr hn n1 n2
              go_enter Try.func25, Try.ntmps25
              go_wp2_with (first | (go_at_call 31; refine (rclass_any _ ?_ ?_ _).mono ?_; omega; omega; rintro e w' ⟨rfl, rfl⟩) | (go_at_call_of 33 (Value.int IntKind.u64 a); refine (rsignals_any _ ha0 ha1 _).mono ?_; rintro e w' ⟨rfl, rfl⟩) | (go_at_call_of 33 (Value.int IntKind.u64 b); refine (rsignals_any _ hb0 hb1 _).mono ?_; rintro e w' ⟨rfl, rfl⟩) | (go_at_call 32; refine (rcompare_any _ _ ?_ ?_ ?_ ?_ _).mono ?_; omega; omega; omega; omega; rintro e w' ⟨rfl, rfl⟩))
              go_ret3
              exact ⟨ret3 (by rw [e1.out.1]; exact (Int.toNat_of_nonneg (by omega)).symm) e1.out.2.1.symm e1.out.2.2.symm, 0, rfl⟩
          · skip
            have e1 : Hid (doR 5 a.toNat b.toNat = b.toNat ∧ doT 5 a.toNat b.toNat = 0 ∧ doE 5 = 0) := do_of (by omega) (by omega) hr (by unfold tells; rw [if_neg (by simp [s1, s2]), if_neg (by simp only [cls_nan]; omega), if_neg (by simp only [cls_nan]; exact hn)]; rw [if_neg (by omega), if_neg (by have := cls_range a.toNat; have := cls_n4 n1; omega)])
            clear hr hn n1 n2
            go_enter Try.func25, Try.ntmps25
            go_wp2_with (first | (go_at_call 31; refine (rclass_any _ ?_ ?_ _).mono ?_; omega; omega; rintro e w' ⟨rfl, rfl⟩) | (go_at_call_of 33 (Value.int IntKind.u64 a); refine (rsignals_any _ ha0 ha1 _).mono ?_; rintro e w' ⟨rfl, rfl⟩) | (go_at_call_of 33 (Value.int IntKind.u64 b); refine (rsignals_any _ hb0 hb1 _).mono ?_; rintro e w' ⟨rfl, rfl⟩) | (go_at_call 32; refine (rcompare_any _ _ ?_ ?_ ?_ ?_ _).mono ?_; omega; omega; omega; omega; rintro e w' ⟨rfl, rfl⟩))
            go_ret3
            exact ⟨ret3 (by rw [e1.out.1]; exact (Int.toNat_of_nonneg (by omega)).symm) e1.out.2.1.symm e1.out.2.2.symm, 0, rfl⟩
        · have i3' : (cls b.toNat == 3) = false := beq_eq_false_iff_ne.2 i3
          have e1 : Hid (doR 5 a.toNat b.toNat = b.toNat ∧ doT 5 a.toNat b.toNat = 0 ∧ doE 5 = 0) := do_of (by omega) (by omega) hr (by unfold tells; rw [if_neg (by simp [s1, s2]), if_neg (by simp only [cls_nan]; omega), if_neg (by simp only [cls_nan]; exact hn)]; rw [if_neg (by omega), if_neg (by omega)])
          clear i3 hr hn n1 n2
          go_enter Try.func25, Try.ntmps25
          go_wp2_with (first | (go_at_call 31; refine (rclass_any _ ?_ ?_ _).mono ?_; omega; omega; rintro e w' ⟨rfl, rfl⟩) | (go_at_call_of 33 (Value.int IntKind.u64 a); refine (rsignals_any _ ha0 ha1 _).mono ?_; rintro e w' ⟨rfl, rfl⟩) | (go_at_call_of 33 (Value.int IntKind.u64 b); refine (rsignals_any _ hb0 hb1 _).mono ?_; rintro e w' ⟨rfl, rfl⟩) | (go_at_call 32; refine (rcompare_any _ _ ?_ ?_ ?_ ?_ _).mono ?_; omega; omega; omega; omega; rintro e w' ⟨rfl, rfl⟩))
          go_ret3
          exact ⟨ret3 (by rw [e1.out.1]; exact (Int.toNat_of_nonneg (by omega)).symm) e1.out.2.1.symm e1.out.2.2.symm, 0, rfl⟩
      · have hr : reck 5 a.toNat b.toNat = a.toNat := by rw [hr0]; exact minF_a ha0 ha1 hb0 hb1 c1 c2 sb
        have hn : ¬ 9218868437227405312 < rg a.toNat := n1
        have sb' : (b / 9223372036854775808 == 1) = false := beq_eq_false_iff_ne.2 sb
        clear c0 c0' c1 c2 hr0 sb
        have qa := cls_no n1
        have qb := cls_no n2
        have qr := cls_no hn
        have pa := cls_not n1
        have pb := cls_not n2
        by_cases i3 : cls a.toNat = 3
        · by_cases i1 : cls a.toNat < 3
          · by_cases i2 : cls b.toNat < 3
            · omega
            · omega
          · skip
            have e1 : Hid (doR 5 a.toNat b.toNat = a.toNat ∧ doT 5 a.toNat b.toNat = 0 ∧ doE 5 = 0) := do_of (by omega) (by omega) hr (by unfold tells; rw [if_neg (by simp [s1, s2]), if_neg (by simp only [cls_nan]; omega), if_neg (by simp only [cls_nan]; exact hn)]; rw [if_neg (by omega), if_neg (by have := cls_range a.toNat; have := cls_n4 n1; omega)])
            clear hr hn n1 n2
            go_enter Try.func25, Try.ntmps25
            go_wp2_with (first | (go_at_call 31; refine (rclass_any _ ?_ ?_ _).mono ?_; omega; omega; rintro e w' ⟨rfl, rfl⟩) | (go_at_call_of 33 (Value.int IntKind.u64 a); refine (rsignals_any _ ha0 ha1 _).mono ?_; rintro e w' ⟨rfl, rfl⟩) | (go_at_call_of 33 (Value.int IntKind.u64 b); refine (rsignals_any _ hb0 hb1 _).mono ?_; rintro e w' ⟨rfl, rfl⟩) | (go_at_call 32; refine (rcompare_any _ _ ?_ ?_ ?_ ?_ _).mono ?_; omega; omega; omega; omega; rintro e w' ⟨rfl, rfl⟩))
            go_ret3
            exact ⟨ret3 (by rw [e1.out.1]; exact (Int.toNat_of_nonneg (by omega)).symm) e1.out.2.1.symm e1.out.2.2.symm, 0, rfl⟩
        · have i3' : (cls a.toNat == 3) = false := beq_eq_false_iff_ne.2 i3
          have e1 : Hid (doR 5 a.toNat b.toNat = a.toNat ∧ doT 5 a.toNat b.toNat = 0 ∧ doE 5 = 0) := do_of (by omega) (by omega) hr (by unfold tells; rw [if_neg (by simp [s1, s2]), if_neg (by simp only [cls_nan]; omega), if_neg (by simp only [cls_nan]; exact hn)]; rw [if_neg (by omega), if_neg (by omega)])
          clear i3 hr hn n1 n2
          go_enter Try.func25, Try.ntmps25
          go_wp2_with (first | (go_at_call 31; refine (rclass_any _ ?_ ?_ _).mono ?_; omega; omega; rintro e w' ⟨rfl, rfl⟩) | (go_at_call_of 33 (Value.int IntKind.u64 a); refine (rsignals_any _ ha0 ha1 _).mono ?_; rintro e w' ⟨rfl, rfl⟩) | (go_at_call_of 33 (Value.int IntKind.u64 b); refine (rsignals_any _ hb0 hb1 _).mono ?_; rintro e w' ⟨rfl, rfl⟩) | (go_at_call 32; refine (rcompare_any _ _ ?_ ?_ ?_ ?_ _).mono ?_; omega; omega; omega; omega; rintro e w' ⟨rfl, rfl⟩))
          go_ret3
          exact ⟨ret3 (by rw [e1.out.1]; exact (Int.toNat_of_nonneg (by omega)).symm) e1.out.2.1.symm e1.out.2.2.symm, 0, rfl⟩
end Go.Proofs.Ytcieglidghnidaa
