/- The document's answer for flt.Do, numbers as operands: it says what flt.Do's plain function says. -/
import Derived.Test.YtcieglidghnidaaRdo
namespace Go.Proofs.Ytcieglidghnidaa
open Go.ChangeShapes Go.WideShapes Go.ChangeAt Go.RowKit
open FltM
set_option linter.unusedSimpArgs false
set_option linter.unusedVariables false

theorem conv_run (b : Nat) (w : World) : (convert 65 65 (.float .f64 b)).run Try.prog w = .ok (.float .f64 b) w :=
  run_convert_float_float w 65 65 .f64 .f64 b b (by kernel_rfl) Try.underlying65 (by unfold floatToFloatBits; rw [if_pos rfl])
theorem cls_n4 {x : Nat} (h : ¬ 9218868437227405312 < rg x) : ¬ cls x = 4 := fun k => h ((cls_nan x).1 k)
theorem cls_not {x : Nat} (h : ¬ 9218868437227405312 < rg x) : (cls x != 4) = true := bne_iff_ne.2 (cls_n4 h)
theorem nan_cut_lt (t : Nat) : t % 2 * 2 ^ 63 + 0x7ff0000000000000 + 1 + t / 2 % (2 ^ 52 - 1) < 18446744073709551616 := by
  simp only [Nat.reducePow, Nat.reduceSub]
  have h : t / 2 % 4503599627370495 < 4503599627370495 := Nat.mod_lt _ (by omega)
  generalize t / 2 % 4503599627370495 = m at *
  rcases Nat.mod_two_eq_zero_or_one t with c | c <;> rw [c] <;> omega
theorem run_arith2 (op : BinOp) (hop : op = .add ∨ op = .sub ∨ op = .mul ∨ op = .quo) (t : TypeId) (x y : Nat) (w : World) :
    ∃ r n, (binOp op t (.float .f64 x) (.float .f64 y)).run Try.prog w = .ok (.float .f64 r) (w.drewN n) ∧ r < 18446744073709551616 ∧ (floatBits op .f64 x y = some r ∨ (floatBits op .f64 x y = none ∧ 9218868437227405312 < rg r)) := by
  cases hf : floatBits op .f64 x y with
  | some r =>
    refine ⟨r, 0, run_float_arith w op t .f64 x y r hf, ?_, Or.inl rfl⟩
    rcases hop with rfl | rfl | rfl | rfl <;> exact some_lt hf
  | none =>
    refine ⟨(Question.nanBits .f64 x y).cut (w.tape w.drawn (.nanBits .f64 x y)), 1, ?_, ?_, Or.inr ⟨rfl, ?_⟩⟩
    · rcases hop with rfl | rfl | rfl | rfl <;> simp only [floatBits] at hf <;> simp [binOp, Op.floatArith, hf, Question.forced] <;> rfl
    · simp only [Question.cut]; exact nan_cut_lt _
    · simp only [Question.cut]; exact nan_cut _

set_option maxRecDepth 100000 in
set_option maxHeartbeats 1000000 in
theorem rdo_add (a b : Int) (ha0 : 0 ≤ a) (ha1 : a < 18446744073709551616) (hb0 : 0 ≤ b) (hb1 : b < 18446744073709551616) (w : World)
    (n1 : ¬ 9218868437227405312 < rg a.toNat) (n2 : ¬ 9218868437227405312 < rg b.toNat) :
    Calls Try.prog 25 #[.int .i64 1, .int .u64 a, .int .u64 b] w fun e w' => e = .returned (.tuple #[.int .u64 (doR 1 a.toNat b.toNat : Nat), .int .i64 (doT 1 a.toNat b.toNat), .int .i64 (doE 1)]) ∧ ∃ n, w' = w.drewN n := by
  have hr0 : reck 1 a.toNat b.toNat = (Ieee.double.add a.toNat b.toNat).getD qnan := by
    unfold reck; rw [if_neg (by omega), if_pos rfl]
  have hfb := frombits_run
  have hbt := bits_run
  have hcv := conv_run
  have hcq := cls_qn
  have s1 := sigs_no n1
  have s2 := sigs_no n2
  obtain ⟨r, n, hrun, hlt, hd⟩ := run_arith2 .add (by simp) 65 a.toNat b.toNat w
  rcases hd with hd | ⟨hd, hn⟩
  · have hn : ¬ 9218868437227405312 < rg r := add_not_nan hd
    have hd' : Ieee.double.add a.toNat b.toNat = some r := hd
    have hr : reck 1 a.toNat b.toNat = r := by rw [hr0, hd']; rfl
    clear hd hd' hr0
    have qa := cls_no n1
    have qb := cls_no n2
    have qr := cls_no hn
    have pa := cls_not n1
    have pb := cls_not n2
    by_cases i3 : cls r = 3
    · by_cases i1 : cls a.toNat < 3
      · by_cases i2 : cls b.toNat < 3
        · skip
          have e1 : Hid (doR 1 a.toNat b.toNat = r ∧ doT 1 a.toNat b.toNat = 4 ∧ doE 1 = 0) := do_of (by omega) (by omega) hr (by unfold tells; rw [if_neg (by simp [s1, s2]), if_neg (by simp only [cls_nan]; omega), if_neg (by simp only [cls_nan]; exact hn)]; rw [if_neg (by omega), if_pos (by omega)])
          clear hr hn n1 n2
          go_enter Try.func25, Try.ntmps25
          go_wp2_with (first | (go_at_call 31; refine (rclass_any _ ?_ ?_ _).mono ?_; omega; omega; rintro e w' ⟨rfl, rfl⟩) | (go_at_call_of 33 (Value.int IntKind.u64 a); refine (rsignals_any _ ha0 ha1 _).mono ?_; rintro e w' ⟨rfl, rfl⟩) | (go_at_call_of 33 (Value.int IntKind.u64 b); refine (rsignals_any _ hb0 hb1 _).mono ?_; rintro e w' ⟨rfl, rfl⟩) | (go_at_call 32; refine (rcompare_any _ _ ?_ ?_ ?_ ?_ _).mono ?_; omega; omega; omega; omega; rintro e w' ⟨rfl, rfl⟩))
          go_ret3
          exact ⟨ret3 (by rw [e1.out.1]; skip) e1.out.2.1.symm e1.out.2.2.symm, n, rfl⟩
        · skip
          have e1 : Hid (doR 1 a.toNat b.toNat = r ∧ doT 1 a.toNat b.toNat = 0 ∧ doE 1 = 0) := do_of (by omega) (by omega) hr (by unfold tells; rw [if_neg (by simp [s1, s2]), if_neg (by simp only [cls_nan]; omega), if_neg (by simp only [cls_nan]; exact hn)]; rw [if_neg (by omega), if_neg (by have := cls_range b.toNat; have := cls_n4 n2; omega)])
          clear hr hn n1 n2
          go_enter Try.func25, Try.ntmps25
          go_wp2_with (first | (go_at_call 31; refine (rclass_any _ ?_ ?_ _).mono ?_; omega; omega; rintro e w' ⟨rfl, rfl⟩) | (go_at_call_of 33 (Value.int IntKind.u64 a); refine (rsignals_any _ ha0 ha1 _).mono ?_; rintro e w' ⟨rfl, rfl⟩) | (go_at_call_of 33 (Value.int IntKind.u64 b); refine (rsignals_any _ hb0 hb1 _).mono ?_; rintro e w' ⟨rfl, rfl⟩) | (go_at_call 32; refine (rcompare_any _ _ ?_ ?_ ?_ ?_ _).mono ?_; omega; omega; omega; omega; rintro e w' ⟨rfl, rfl⟩))
          go_ret3
          exact ⟨ret3 (by rw [e1.out.1]; skip) e1.out.2.1.symm e1.out.2.2.symm, n, rfl⟩
      · skip
        have e1 : Hid (doR 1 a.toNat b.toNat = r ∧ doT 1 a.toNat b.toNat = 0 ∧ doE 1 = 0) := do_of (by omega) (by omega) hr (by unfold tells; rw [if_neg (by simp [s1, s2]), if_neg (by simp only [cls_nan]; omega), if_neg (by simp only [cls_nan]; exact hn)]; rw [if_neg (by omega), if_neg (by have := cls_range a.toNat; have := cls_n4 n1; omega)])
        clear hr hn n1 n2
        go_enter Try.func25, Try.ntmps25
        go_wp2_with (first | (go_at_call 31; refine (rclass_any _ ?_ ?_ _).mono ?_; omega; omega; rintro e w' ⟨rfl, rfl⟩) | (go_at_call_of 33 (Value.int IntKind.u64 a); refine (rsignals_any _ ha0 ha1 _).mono ?_; rintro e w' ⟨rfl, rfl⟩) | (go_at_call_of 33 (Value.int IntKind.u64 b); refine (rsignals_any _ hb0 hb1 _).mono ?_; rintro e w' ⟨rfl, rfl⟩) | (go_at_call 32; refine (rcompare_any _ _ ?_ ?_ ?_ ?_ _).mono ?_; omega; omega; omega; omega; rintro e w' ⟨rfl, rfl⟩))
        go_ret3
        exact ⟨ret3 (by rw [e1.out.1]; skip) e1.out.2.1.symm e1.out.2.2.symm, n, rfl⟩
    · have i3' : (cls r == 3) = false := beq_eq_false_iff_ne.2 i3
      have e1 : Hid (doR 1 a.toNat b.toNat = r ∧ doT 1 a.toNat b.toNat = 0 ∧ doE 1 = 0) := do_of (by omega) (by omega) hr (by unfold tells; rw [if_neg (by simp [s1, s2]), if_neg (by simp only [cls_nan]; omega), if_neg (by simp only [cls_nan]; exact hn)]; rw [if_neg (by omega), if_neg (by omega)])
      clear i3 hr hn n1 n2
      go_enter Try.func25, Try.ntmps25
      go_wp2_with (first | (go_at_call 31; refine (rclass_any _ ?_ ?_ _).mono ?_; omega; omega; rintro e w' ⟨rfl, rfl⟩) | (go_at_call_of 33 (Value.int IntKind.u64 a); refine (rsignals_any _ ha0 ha1 _).mono ?_; rintro e w' ⟨rfl, rfl⟩) | (go_at_call_of 33 (Value.int IntKind.u64 b); refine (rsignals_any _ hb0 hb1 _).mono ?_; rintro e w' ⟨rfl, rfl⟩) | (go_at_call 32; refine (rcompare_any _ _ ?_ ?_ ?_ ?_ _).mono ?_; omega; omega; omega; omega; rintro e w' ⟨rfl, rfl⟩))
      go_ret3
      exact ⟨ret3 (by rw [e1.out.1]; skip) e1.out.2.1.symm e1.out.2.2.symm, n, rfl⟩
  · have hd' : Ieee.double.add a.toNat b.toNat = none := hd
    have hr : reck 1 a.toNat b.toNat = qnan := by rw [hr0, hd']; rfl
    have cr : cls r = 4 := (cls_nan _).2 hn
    have qa := cls_no n1
    have qb := cls_no n2
    have pa := cls_not n1
    have pb := cls_not n2
    have e1 : Hid (doR 1 a.toNat b.toNat = qnan ∧ doT 1 a.toNat b.toNat = 1 ∧ doE 1 = 0) := do_of (by omega) (by omega) hr (by unfold tells; rw [if_neg (by simp [s1, s2]), if_neg (by simp only [cls_nan]; omega), if_pos (show cls qnan = 4 from cls_qnan)])
    clear hd hd' hr0 hr hn n1 n2
    go_enter Try.func25, Try.ntmps25
    go_wp2_with (first | (go_at_call 31; refine (rclass_any _ ?_ ?_ _).mono ?_; omega; omega; rintro e w' ⟨rfl, rfl⟩) | (go_at_call_of 33 (Value.int IntKind.u64 a); refine (rsignals_any _ ha0 ha1 _).mono ?_; rintro e w' ⟨rfl, rfl⟩) | (go_at_call_of 33 (Value.int IntKind.u64 b); refine (rsignals_any _ hb0 hb1 _).mono ?_; rintro e w' ⟨rfl, rfl⟩) | (go_at_call 32; refine (rcompare_any _ _ ?_ ?_ ?_ ?_ _).mono ?_; omega; omega; omega; omega; rintro e w' ⟨rfl, rfl⟩))
    go_ret3
    exact ⟨ret3 (by rw [e1.out.1]; rfl) e1.out.2.1.symm e1.out.2.2.symm, n, rfl⟩
end Go.Proofs.Ytcieglidghnidaa
