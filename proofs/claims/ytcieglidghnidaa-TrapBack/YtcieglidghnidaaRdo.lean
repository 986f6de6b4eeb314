/- The contract of the document's answer for flt.Do: it says what flt.Do's plain function says. -/
import Derived.Test.YtcieglidghnidaaDo
namespace Go.Proofs.Ytcieglidghnidaa
open Go.ChangeShapes Go.WideShapes Go.ChangeAt Go.RowKit
open FltM
set_option linter.unusedSimpArgs false
set_option linter.unusedVariables false

theorem wrap_top (a : Int) (h0 : 0 ≤ a) (h1 : a < 18446744073709551616) : IntKind.u64.wrap (a + 9223372036854775808) = ((FltM.flip a.toNat : Nat) : Int) := by
  rw [IntKind.wrap_u64]; unfold FltM.flip; omega
theorem wrap_low (a : Int) (h0 : 0 ≤ a) (h1 : a < 18446744073709551616) : IntKind.u64.wrap (a * 2) / 2 = ((rg a.toNat : Nat) : Int) := by
  rw [IntKind.wrap_u64]; unfold rg; omega
theorem cls_qn : cls (9221120237041090560 : Int).toNat = 4 := cls_qnan

set_option maxRecDepth 100000 in
set_option maxHeartbeats 400000 in
theorem rdo_out (op : Int) (a b : Int) (ha0 : 0 ≤ a) (ha1 : a < 18446744073709551616) (hb0 : 0 ≤ b) (hb1 : b < 18446744073709551616) (w : World) (c : op < 1 ∨ 8 < op) :
    Calls Try.prog 25 #[.int .i64 op, .int .u64 a, .int .u64 b] w fun e w' => e = .returned (.tuple #[.int .u64 (doR op a.toNat b.toNat : Nat), .int .i64 (doT op a.toNat b.toNat), .int .i64 (doE op)]) ∧ ∃ n, w' = w.drewN n := by
  have e1 : Hid (doR op a.toNat b.toNat = 0 ∧ doT op a.toNat b.toNat = 0 ∧ doE op = 1) := ⟨by unfold doR; rw [if_pos c], by unfold doT; rw [if_pos (by omega)], by unfold doE; rw [if_pos c]⟩
  rcases c with c | c
  · go_enter Try.func25, Try.ntmps25
    go_wp2
    go_ret3
    exact ⟨ret3 (by rw [e1.out.1]; rfl) e1.out.2.1.symm e1.out.2.2.symm, 0, rfl⟩
  · go_enter Try.func25, Try.ntmps25
    go_wp2
    go_ret3
    exact ⟨ret3 (by rw [e1.out.1]; rfl) e1.out.2.1.symm e1.out.2.2.symm, 0, rfl⟩

set_option maxRecDepth 100000 in
set_option maxHeartbeats 400000 in
theorem rdo_neg (a b : Int) (ha0 : 0 ≤ a) (ha1 : a < 18446744073709551616) (hb0 : 0 ≤ b) (hb1 : b < 18446744073709551616) (w : World) :
    Calls Try.prog 25 #[.int .i64 7, .int .u64 a, .int .u64 b] w fun e w' => e = .returned (.tuple #[.int .u64 (doR 7 a.toNat b.toNat : Nat), .int .i64 (doT 7 a.toNat b.toNat), .int .i64 (doE 7)]) ∧ ∃ n, w' = w.drewN n := by
  have hx := wrap_top a ha0 ha1
  have e1 : Hid (doR 7 a.toNat b.toNat = FltM.flip a.toNat ∧ doT 7 a.toNat b.toNat = 0 ∧ doE 7 = 0) := ⟨by unfold doR; rw [if_neg (by omega), if_pos rfl], by unfold doT; rw [if_pos (by omega)], by unfold doE; rw [if_neg (by omega)]⟩
  go_enter Try.func25, Try.ntmps25
  go_wp2
  go_ret3
  exact ⟨ret3 (by rw [e1.out.1]) e1.out.2.1.symm e1.out.2.2.symm, 0, rfl⟩

set_option maxRecDepth 100000 in
set_option maxHeartbeats 400000 in
theorem rdo_abs (a b : Int) (ha0 : 0 ≤ a) (ha1 : a < 18446744073709551616) (hb0 : 0 ≤ b) (hb1 : b < 18446744073709551616) (w : World) :
    Calls Try.prog 25 #[.int .i64 8, .int .u64 a, .int .u64 b] w fun e w' => e = .returned (.tuple #[.int .u64 (doR 8 a.toNat b.toNat : Nat), .int .i64 (doT 8 a.toNat b.toNat), .int .i64 (doE 8)]) ∧ ∃ n, w' = w.drewN n := by
  have hx := wrap_low a ha0 ha1
  have e1 : Hid (doR 8 a.toNat b.toNat = rg a.toNat ∧ doT 8 a.toNat b.toNat = 0 ∧ doE 8 = 0) := ⟨by unfold doR; rw [if_neg (by omega), if_neg (by omega), if_pos rfl], by unfold doT; rw [if_pos (by omega)], by unfold doE; rw [if_neg (by omega)]⟩
  go_enter Try.func25, Try.ntmps25
  go_wp2
  go_ret3
  exact ⟨ret3 (by rw [e1.out.1]) e1.out.2.1.symm e1.out.2.2.symm, 0, rfl⟩

theorem do_of {op : Int} {a b r : Nat} {v : Int} (h1 : 1 ≤ op) (h2 : op ≤ 6) (hr : reck op a b = r) (ht : tells op a b r = v) :
    doR op a b = r ∧ doT op a b = v ∧ doE op = 0 :=
  ⟨by unfold doR; rw [if_neg (by omega), if_neg (by omega), if_neg (by omega), hr], by unfold doT; rw [if_neg (by omega), hr, ht], by unfold doE; rw [if_neg (by omega)]⟩
theorem cls_range (x : Nat) : cls x = 0 ∨ cls x = 1 ∨ cls x = 2 ∨ cls x = 3 ∨ cls x = 4 := by
  unfold cls; repeat' split
  all_goals simp
theorem sigs_no {x : Nat} (h : ¬ 9218868437227405312 < rg x) : sigs x = false := by unfold sigs; rw [decide_eq_false h]; rfl

set_option maxRecDepth 100000 in
set_option maxHeartbeats 400000 in
theorem rdo_nan1 (a b : Int) (ha0 : 0 ≤ a) (ha1 : a < 18446744073709551616) (hb0 : 0 ≤ b) (hb1 : b < 18446744073709551616) (w : World) (h : 9218868437227405312 < rg a.toNat ∨ 9218868437227405312 < rg b.toNat) :
    Calls Try.prog 25 #[.int .i64 1, .int .u64 a, .int .u64 b] w fun e w' => e = .returned (.tuple #[.int .u64 (doR 1 a.toNat b.toNat : Nat), .int .i64 (doT 1 a.toNat b.toNat), .int .i64 (doE 1)]) ∧ ∃ n, w' = w.drewN n := by
  have hr : reck 1 a.toNat b.toNat = qnan := by unfold reck; rw [if_pos h]
  have hcq := cls_qn
  have hfb := frombits_run
  have hnn : cls a.toNat = 4 ∨ cls b.toNat = 4 := h.imp (cls_nan _).2 (cls_nan _).2
  cases hs : (sigs a.toNat || sigs b.toNat)
  · have hs1 : sigs a.toNat = false := by simp at hs; exact hs.1
    have hs2 : sigs b.toNat = false := by simp at hs; exact hs.2
    have e1 : Hid (doR 1 a.toNat b.toNat = qnan ∧ doT 1 a.toNat b.toNat = 0 ∧ doE 1 = 0) := do_of (by omega) (by omega) hr (by unfold tells; rw [if_neg (by rw [hs]; decide), if_pos hnn])
    clear hs
    by_cases n1 : 9218868437227405312 < rg a.toNat
    · have ca : cls a.toNat = 4 := (cls_nan _).2 n1
      clear h n1 hnn hr
      go_enter Try.func25, Try.ntmps25
      go_wp2_with (first | (go_at_call 31; refine (rclass_any _ ?_ ?_ _).mono ?_; omega; omega; rintro e w' ⟨rfl, rfl⟩) | (go_at_call_of 33 (Value.int IntKind.u64 a); refine (rsignals_any _ ha0 ha1 _).mono ?_; rintro e w' ⟨rfl, rfl⟩) | (go_at_call_of 33 (Value.int IntKind.u64 b); refine (rsignals_any _ hb0 hb1 _).mono ?_; rintro e w' ⟨rfl, rfl⟩) | (go_at_call 32; refine (rcompare_any _ _ ?_ ?_ ?_ ?_ _).mono ?_; omega; omega; omega; omega; rintro e w' ⟨rfl, rfl⟩))
      go_ret3
      exact ⟨ret3 (by rw [e1.out.1]; rfl) e1.out.2.1.symm e1.out.2.2.symm, 0, rfl⟩
    · have ca := cls_no n1
      have cb : cls b.toNat = 4 := (cls_nan _).2 (h.resolve_left n1)
      clear h n1 hnn hr
      rcases cls_range a.toNat with q | q | q | q | q
      · skip
        go_enter Try.func25, Try.ntmps25
        go_wp2_with (first | (go_at_call 31; refine (rclass_any _ ?_ ?_ _).mono ?_; omega; omega; rintro e w' ⟨rfl, rfl⟩) | (go_at_call_of 33 (Value.int IntKind.u64 a); refine (rsignals_any _ ha0 ha1 _).mono ?_; rintro e w' ⟨rfl, rfl⟩) | (go_at_call_of 33 (Value.int IntKind.u64 b); refine (rsignals_any _ hb0 hb1 _).mono ?_; rintro e w' ⟨rfl, rfl⟩) | (go_at_call 32; refine (rcompare_any _ _ ?_ ?_ ?_ ?_ _).mono ?_; omega; omega; omega; omega; rintro e w' ⟨rfl, rfl⟩))
        go_ret3
        exact ⟨ret3 (by rw [e1.out.1]; rfl) e1.out.2.1.symm e1.out.2.2.symm, 0, rfl⟩
      · skip
        go_enter Try.func25, Try.ntmps25
        go_wp2_with (first | (go_at_call 31; refine (rclass_any _ ?_ ?_ _).mono ?_; omega; omega; rintro e w' ⟨rfl, rfl⟩) | (go_at_call_of 33 (Value.int IntKind.u64 a); refine (rsignals_any _ ha0 ha1 _).mono ?_; rintro e w' ⟨rfl, rfl⟩) | (go_at_call_of 33 (Value.int IntKind.u64 b); refine (rsignals_any _ hb0 hb1 _).mono ?_; rintro e w' ⟨rfl, rfl⟩) | (go_at_call 32; refine (rcompare_any _ _ ?_ ?_ ?_ ?_ _).mono ?_; omega; omega; omega; omega; rintro e w' ⟨rfl, rfl⟩))
        go_ret3
        exact ⟨ret3 (by rw [e1.out.1]; rfl) e1.out.2.1.symm e1.out.2.2.symm, 0, rfl⟩
      · skip
        go_enter Try.func25, Try.ntmps25
        go_wp2_with (first | (go_at_call 31; refine (rclass_any _ ?_ ?_ _).mono ?_; omega; omega; rintro e w' ⟨rfl, rfl⟩) | (go_at_call_of 33 (Value.int IntKind.u64 a); refine (rsignals_any _ ha0 ha1 _).mono ?_; rintro e w' ⟨rfl, rfl⟩) | (go_at_call_of 33 (Value.int IntKind.u64 b); refine (rsignals_any _ hb0 hb1 _).mono ?_; rintro e w' ⟨rfl, rfl⟩) | (go_at_call 32; refine (rcompare_any _ _ ?_ ?_ ?_ ?_ _).mono ?_; omega; omega; omega; omega; rintro e w' ⟨rfl, rfl⟩))
        go_ret3
        exact ⟨ret3 (by rw [e1.out.1]; rfl) e1.out.2.1.symm e1.out.2.2.symm, 0, rfl⟩
      · skip
        go_enter Try.func25, Try.ntmps25
        go_wp2_with (first | (go_at_call 31; refine (rclass_any _ ?_ ?_ _).mono ?_; omega; omega; rintro e w' ⟨rfl, rfl⟩) | (go_at_call_of 33 (Value.int IntKind.u64 a); refine (rsignals_any _ ha0 ha1 _).mono ?_; rintro e w' ⟨rfl, rfl⟩) | (go_at_call_of 33 (Value.int IntKind.u64 b); refine (rsignals_any _ hb0 hb1 _).mono ?_; rintro e w' ⟨rfl, rfl⟩) | (go_at_call 32; refine (rcompare_any _ _ ?_ ?_ ?_ ?_ _).mono ?_; omega; omega; omega; omega; rintro e w' ⟨rfl, rfl⟩))
        go_ret3
        exact ⟨ret3 (by rw [e1.out.1]; rfl) e1.out.2.1.symm e1.out.2.2.symm, 0, rfl⟩
      · rw [q] at ca; exact absurd ca (by decide)
  · have e1 : Hid (doR 1 a.toNat b.toNat = qnan ∧ doT 1 a.toNat b.toNat = 1 ∧ doE 1 = 0) := do_of (by omega) (by omega) hr (by unfold tells; rw [if_pos hs])
    by_cases n1 : 9218868437227405312 < rg a.toNat
    · have ca : cls a.toNat = 4 := (cls_nan _).2 n1
      cases s1 : sigs a.toNat
      · have s2 : sigs b.toNat = true := by rw [s1] at hs; exact hs
        clear h n1 hnn hr hs
        go_enter Try.func25, Try.ntmps25
        go_wp2_with (first | (go_at_call 31; refine (rclass_any _ ?_ ?_ _).mono ?_; omega; omega; rintro e w' ⟨rfl, rfl⟩) | (go_at_call_of 33 (Value.int IntKind.u64 a); refine (rsignals_any _ ha0 ha1 _).mono ?_; rintro e w' ⟨rfl, rfl⟩) | (go_at_call_of 33 (Value.int IntKind.u64 b); refine (rsignals_any _ hb0 hb1 _).mono ?_; rintro e w' ⟨rfl, rfl⟩) | (go_at_call 32; refine (rcompare_any _ _ ?_ ?_ ?_ ?_ _).mono ?_; omega; omega; omega; omega; rintro e w' ⟨rfl, rfl⟩))
        go_ret3
        exact ⟨ret3 (by rw [e1.out.1]; rfl) e1.out.2.1.symm e1.out.2.2.symm, 0, rfl⟩
      · clear h n1 hnn hr hs
        go_enter Try.func25, Try.ntmps25
        go_wp2_with (first | (go_at_call 31; refine (rclass_any _ ?_ ?_ _).mono ?_; omega; omega; rintro e w' ⟨rfl, rfl⟩) | (go_at_call_of 33 (Value.int IntKind.u64 a); refine (rsignals_any _ ha0 ha1 _).mono ?_; rintro e w' ⟨rfl, rfl⟩) | (go_at_call_of 33 (Value.int IntKind.u64 b); refine (rsignals_any _ hb0 hb1 _).mono ?_; rintro e w' ⟨rfl, rfl⟩) | (go_at_call 32; refine (rcompare_any _ _ ?_ ?_ ?_ ?_ _).mono ?_; omega; omega; omega; omega; rintro e w' ⟨rfl, rfl⟩))
        go_ret3
        exact ⟨ret3 (by rw [e1.out.1]; rfl) e1.out.2.1.symm e1.out.2.2.symm, 0, rfl⟩
    · have ca := cls_no n1
      have cb : cls b.toNat = 4 := (cls_nan _).2 (h.resolve_left n1)
      have s1 := sigs_no n1
      have s2 : sigs b.toNat = true := by rw [s1] at hs; exact hs
      clear h n1 hnn hr hs
      go_enter Try.func25, Try.ntmps25
      go_wp2_with (first | (go_at_call 31; refine (rclass_any _ ?_ ?_ _).mono ?_; omega; omega; rintro e w' ⟨rfl, rfl⟩) | (go_at_call_of 33 (Value.int IntKind.u64 a); refine (rsignals_any _ ha0 ha1 _).mono ?_; rintro e w' ⟨rfl, rfl⟩) | (go_at_call_of 33 (Value.int IntKind.u64 b); refine (rsignals_any _ hb0 hb1 _).mono ?_; rintro e w' ⟨rfl, rfl⟩) | (go_at_call 32; refine (rcompare_any _ _ ?_ ?_ ?_ ?_ _).mono ?_; omega; omega; omega; omega; rintro e w' ⟨rfl, rfl⟩))
      go_ret3
      exact ⟨ret3 (by rw [e1.out.1]; rfl) e1.out.2.1.symm e1.out.2.2.symm, 0, rfl⟩


set_option maxRecDepth 100000 in
set_option maxHeartbeats 400000 in
theorem rdo_nan2 (a b : Int) (ha0 : 0 ≤ a) (ha1 : a < 18446744073709551616) (hb0 : 0 ≤ b) (hb1 : b < 18446744073709551616) (w : World) (h : 9218868437227405312 < rg a.toNat ∨ 9218868437227405312 < rg b.toNat) :
    Calls Try.prog 25 #[.int .i64 2, .int .u64 a, .int .u64 b] w fun e w' => e = .returned (.tuple #[.int .u64 (doR 2 a.toNat b.toNat : Nat), .int .i64 (doT 2 a.toNat b.toNat), .int .i64 (doE 2)]) ∧ ∃ n, w' = w.drewN n := by
  have hr : reck 2 a.toNat b.toNat = qnan := by unfold reck; rw [if_pos h]
  have hcq := cls_qn
  have hfb := frombits_run
  have hnn : cls a.toNat = 4 ∨ cls b.toNat = 4 := h.imp (cls_nan _).2 (cls_nan _).2
  cases hs : (sigs a.toNat || sigs b.toNat)
  · have hs1 : sigs a.toNat = false := by simp at hs; exact hs.1
    have hs2 : sigs b.toNat = false := by simp at hs; exact hs.2
    have e1 : Hid (doR 2 a.toNat b.toNat = qnan ∧ doT 2 a.toNat b.toNat = 0 ∧ doE 2 = 0) := do_of (by omega) (by omega) hr (by unfold tells; rw [if_neg (by rw [hs]; decide), if_pos hnn])
    clear hs
    by_cases n1 : 9218868437227405312 < rg a.toNat
    · have ca : cls a.toNat = 4 := (cls_nan _).2 n1
      clear h n1 hnn hr
      go_enter Try.func25, Try.ntmps25
      go_wp2_with (first | (go_at_call 31; refine (rclass_any _ ?_ ?_ _).mono ?_; omega; omega; rintro e w' ⟨rfl, rfl⟩) | (go_at_call_of 33 (Value.int IntKind.u64 a); refine (rsignals_any _ ha0 ha1 _).mono ?_; rintro e w' ⟨rfl, rfl⟩) | (go_at_call_of 33 (Value.int IntKind.u64 b); refine (rsignals_any _ hb0 hb1 _).mono ?_; rintro e w' ⟨rfl, rfl⟩) | (go_at_call 32; refine (rcompare_any _ _ ?_ ?_ ?_ ?_ _).mono ?_; omega; omega; omega; omega; rintro e w' ⟨rfl, rfl⟩))
      go_ret3
      exact ⟨ret3 (by rw [e1.out.1]; rfl) e1.out.2.1.symm e1.out.2.2.symm, 0, rfl⟩
    · have ca := cls_no n1
      have cb : cls b.toNat = 4 := (cls_nan _).2 (h.resolve_left n1)
      clear h n1 hnn hr
      rcases cls_range a.toNat with q | q | q | q | q
      · skip
        go_enter Try.func25, Try.ntmps25
        go_wp2_with (first | (go_at_call 31; refine (rclass_any _ ?_ ?_ _).mono ?_; omega; omega; rintro e w' ⟨rfl, rfl⟩) | (go_at_call_of 33 (Value.int IntKind.u64 a); refine (rsignals_any _ ha0 ha1 _).mono ?_; rintro e w' ⟨rfl, rfl⟩) | (go_at_call_of 33 (Value.int IntKind.u64 b); refine (rsignals_any _ hb0 hb1 _).mono ?_; rintro e w' ⟨rfl, rfl⟩) | (go_at_call 32; refine (rcompare_any _ _ ?_ ?_ ?_ ?_ _).mono ?_; omega; omega; omega; omega; rintro e w' ⟨rfl, rfl⟩))
        go_ret3
        exact ⟨ret3 (by rw [e1.out.1]; rfl) e1.out.2.1.symm e1.out.2.2.symm, 0, rfl⟩
      · skip
        go_enter Try.func25, Try.ntmps25
        go_wp2_with (first | (go_at_call 31; refine (rclass_any _ ?_ ?_ _).mono ?_; omega; omega; rintro e w' ⟨rfl, rfl⟩) | (go_at_call_of 33 (Value.int IntKind.u64 a); refine (rsignals_any _ ha0 ha1 _).mono ?_; rintro e w' ⟨rfl, rfl⟩) | (go_at_call_of 33 (Value.int IntKind.u64 b); refine (rsignals_any _ hb0 hb1 _).mono ?_; rintro e w' ⟨rfl, rfl⟩) | (go_at_call 32; refine (rcompare_any _ _ ?_ ?_ ?_ ?_ _).mono ?_; omega; omega; omega; omega; rintro e w' ⟨rfl, rfl⟩))
        go_ret3
        exact ⟨ret3 (by rw [e1.out.1]; rfl) e1.out.2.1.symm e1.out.2.2.symm, 0, rfl⟩
      · skip
        go_enter Try.func25, Try.ntmps25
        go_wp2_with (first | (go_at_call 31; refine (rclass_any _ ?_ ?_ _).mono ?_; omega; omega; rintro e w' ⟨rfl, rfl⟩) | (go_at_call_of 33 (Value.int IntKind.u64 a); refine (rsignals_any _ ha0 ha1 _).mono ?_; rintro e w' ⟨rfl, rfl⟩) | (go_at_call_of 33 (Value.int IntKind.u64 b); refine (rsignals_any _ hb0 hb1 _).mono ?_; rintro e w' ⟨rfl, rfl⟩) | (go_at_call 32; refine (rcompare_any _ _ ?_ ?_ ?_ ?_ _).mono ?_; omega; omega; omega; omega; rintro e w' ⟨rfl, rfl⟩))
        go_ret3
        exact ⟨ret3 (by rw [e1.out.1]; rfl) e1.out.2.1.symm e1.out.2.2.symm, 0, rfl⟩
      · skip
        go_enter Try.func25, Try.ntmps25
        go_wp2_with (first | (go_at_call 31; refine (rclass_any _ ?_ ?_ _).mono ?_; omega; omega; rintro e w' ⟨rfl, rfl⟩) | (go_at_call_of 33 (Value.int IntKind.u64 a); refine (rsignals_any _ ha0 ha1 _).mono ?_; rintro e w' ⟨rfl, rfl⟩) | (go_at_call_of 33 (Value.int IntKind.u64 b); refine (rsignals_any _ hb0 hb1 _).mono ?_; rintro e w' ⟨rfl, rfl⟩) | (go_at_call 32; refine (rcompare_any _ _ ?_ ?_ ?_ ?_ _).mono ?_; omega; omega; omega; omega; rintro e w' ⟨rfl, rfl⟩))
        go_ret3
        exact ⟨ret3 (by rw [e1.out.1]; rfl) e1.out.2.1.symm e1.out.2.2.symm, 0, rfl⟩
      · rw [q] at ca; exact absurd ca (by decide)
  · have e1 : Hid (doR 2 a.toNat b.toNat = qnan ∧ doT 2 a.toNat b.toNat = 1 ∧ doE 2 = 0) := do_of (by omega) (by omega) hr (by unfold tells; rw [if_pos hs])
    by_cases n1 : 9218868437227405312 < rg a.toNat
    · have ca : cls a.toNat = 4 := (cls_nan _).2 n1
      cases s1 : sigs a.toNat
      · have s2 : sigs b.toNat = true := by rw [s1] at hs; exact hs
        clear h n1 hnn hr hs
        go_enter Try.func25, Try.ntmps25
        go_wp2_with (first | (go_at_call 31; refine (rclass_any _ ?_ ?_ _).mono ?_; omega; omega; rintro e w' ⟨rfl, rfl⟩) | (go_at_call_of 33 (Value.int IntKind.u64 a); refine (rsignals_any _ ha0 ha1 _).mono ?_; rintro e w' ⟨rfl, rfl⟩) | (go_at_call_of 33 (Value.int IntKind.u64 b); refine (rsignals_any _ hb0 hb1 _).mono ?_; rintro e w' ⟨rfl, rfl⟩) | (go_at_call 32; refine (rcompare_any _ _ ?_ ?_ ?_ ?_ _).mono ?_; omega; omega; omega; omega; rintro e w' ⟨rfl, rfl⟩))
        go_ret3
        exact ⟨ret3 (by rw [e1.out.1]; rfl) e1.out.2.1.symm e1.out.2.2.symm, 0, rfl⟩
      · clear h n1 hnn hr hs
        go_enter Try.func25, Try.ntmps25
        go_wp2_with (first | (go_at_call 31; refine (rclass_any _ ?_ ?_ _).mono ?_; omega; omega; rintro e w' ⟨rfl, rfl⟩) | (go_at_call_of 33 (Value.int IntKind.u64 a); refine (rsignals_any _ ha0 ha1 _).mono ?_; rintro e w' ⟨rfl, rfl⟩) | (go_at_call_of 33 (Value.int IntKind.u64 b); refine (rsignals_any _ hb0 hb1 _).mono ?_; rintro e w' ⟨rfl, rfl⟩) | (go_at_call 32; refine (rcompare_any _ _ ?_ ?_ ?_ ?_ _).mono ?_; omega; omega; omega; omega; rintro e w' ⟨rfl, rfl⟩))
        go_ret3
        exact ⟨ret3 (by rw [e1.out.1]; rfl) e1.out.2.1.symm e1.out.2.2.symm, 0, rfl⟩
    · have ca := cls_no n1
      have cb : cls b.toNat = 4 := (cls_nan _).2 (h.resolve_left n1)
      have s1 := sigs_no n1
      have s2 : sigs b.toNat = true := by rw [s1] at hs; exact hs
      clear h n1 hnn hr hs
      go_enter Try.func25, Try.ntmps25
      go_wp2_with (first | (go_at_call 31; refine (rclass_any _ ?_ ?_ _).mono ?_; omega; omega; rintro e w' ⟨rfl, rfl⟩) | (go_at_call_of 33 (Value.int IntKind.u64 a); refine (rsignals_any _ ha0 ha1 _).mono ?_; rintro e w' ⟨rfl, rfl⟩) | (go_at_call_of 33 (Value.int IntKind.u64 b); refine (rsignals_any _ hb0 hb1 _).mono ?_; rintro e w' ⟨rfl, rfl⟩) | (go_at_call 32; refine (rcompare_any _ _ ?_ ?_ ?_ ?_ _).mono ?_; omega; omega; omega; omega; rintro e w' ⟨rfl, rfl⟩))
      go_ret3
      exact ⟨ret3 (by rw [e1.out.1]; rfl) e1.out.2.1.symm e1.out.2.2.symm, 0, rfl⟩


set_option maxRecDepth 100000 in
set_option maxHeartbeats 400000 in
theorem rdo_nan3 (a b : Int) (ha0 : 0 ≤ a) (ha1 : a < 18446744073709551616) (hb0 : 0 ≤ b) (hb1 : b < 18446744073709551616) (w : World) (h : 9218868437227405312 < rg a.toNat ∨ 9218868437227405312 < rg b.toNat) :
    Calls Try.prog 25 #[.int .i64 3, .int .u64 a, .int .u64 b] w fun e w' => e = .returned (.tuple #[.int .u64 (doR 3 a.toNat b.toNat : Nat), .int .i64 (doT 3 a.toNat b.toNat), .int .i64 (doE 3)]) ∧ ∃ n, w' = w.drewN n := by
  have hr : reck 3 a.toNat b.toNat = qnan := by unfold reck; rw [if_pos h]
  have hcq := cls_qn
  have hfb := frombits_run
  have hnn : cls a.toNat = 4 ∨ cls b.toNat = 4 := h.imp (cls_nan _).2 (cls_nan _).2
  cases hs : (sigs a.toNat || sigs b.toNat)
  · have hs1 : sigs a.toNat = false := by simp at hs; exact hs.1
    have hs2 : sigs b.toNat = false := by simp at hs; exact hs.2
    have e1 : Hid (doR 3 a.toNat b.toNat = qnan ∧ doT 3 a.toNat b.toNat = 0 ∧ doE 3 = 0) := do_of (by omega) (by omega) hr (by unfold tells; rw [if_neg (by rw [hs]; decide), if_pos hnn])
    clear hs
    by_cases n1 : 9218868437227405312 < rg a.toNat
    · have ca : cls a.toNat = 4 := (cls_nan _).2 n1
      clear h n1 hnn hr
      go_enter Try.func25, Try.ntmps25
      go_wp2_with (first | (go_at_call 31; refine (rclass_any _ ?_ ?_ _).mono ?_; omega; omega; rintro e w' ⟨rfl, rfl⟩) | (go_at_call_of 33 (Value.int IntKind.u64 a); refine (rsignals_any _ ha0 ha1 _).mono ?_; rintro e w' ⟨rfl, rfl⟩) | (go_at_call_of 33 (Value.int IntKind.u64 b); refine (rsignals_any _ hb0 hb1 _).mono ?_; rintro e w' ⟨rfl, rfl⟩) | (go_at_call 32; refine (rcompare_any _ _ ?_ ?_ ?_ ?_ _).mono ?_; omega; omega; omega; omega; rintro e w' ⟨rfl, rfl⟩))
      go_ret3
      exact ⟨ret3 (by rw [e1.out.1]; rfl) e1.out.2.1.symm e1.out.2.2.symm, 0, rfl⟩
    · have ca := cls_no n1
      have cb : cls b.toNat = 4 := (cls_nan _).2 (h.resolve_left n1)
      clear h n1 hnn hr
      rcases cls_range a.toNat with q | q | q | q | q
      · skip
        go_enter Try.func25, Try.ntmps25
        go_wp2_with (first | (go_at_call 31; refine (rclass_any _ ?_ ?_ _).mono ?_; omega; omega; rintro e w' ⟨rfl, rfl⟩) | (go_at_call_of 33 (Value.int IntKind.u64 a); refine (rsignals_any _ ha0 ha1 _).mono ?_; rintro e w' ⟨rfl, rfl⟩) | (go_at_call_of 33 (Value.int IntKind.u64 b); refine (rsignals_any _ hb0 hb1 _).mono ?_; rintro e w' ⟨rfl, rfl⟩) | (go_at_call 32; refine (rcompare_any _ _ ?_ ?_ ?_ ?_ _).mono ?_; omega; omega; omega; omega; rintro e w' ⟨rfl, rfl⟩))
        go_ret3
        exact ⟨ret3 (by rw [e1.out.1]; rfl) e1.out.2.1.symm e1.out.2.2.symm, 0, rfl⟩
      · skip
        go_enter Try.func25, Try.ntmps25
        go_wp2_with (first | (go_at_call 31; refine (rclass_any _ ?_ ?_ _).mono ?_; omega; omega; rintro e w' ⟨rfl, rfl⟩) | (go_at_call_of 33 (Value.int IntKind.u64 a); refine (rsignals_any _ ha0 ha1 _).mono ?_; rintro e w' ⟨rfl, rfl⟩) | (go_at_call_of 33 (Value.int IntKind.u64 b); refine (rsignals_any _ hb0 hb1 _).mono ?_; rintro e w' ⟨rfl, rfl⟩) | (go_at_call 32; refine (rcompare_any _ _ ?_ ?_ ?_ ?_ _).mono ?_; omega; omega; omega; omega; rintro e w' ⟨rfl, rfl⟩))
        go_ret3
        exact ⟨ret3 (by rw [e1.out.1]; rfl) e1.out.2.1.symm e1.out.2.2.symm, 0, rfl⟩
      · skip
        go_enter Try.func25, Try.ntmps25
        go_wp2_with (first | (go_at_call 31; refine (rclass_any _ ?_ ?_ _).mono ?_; omega; omega; rintro e w' ⟨rfl, rfl⟩) | (go_at_call_of 33 (Value.int IntKind.u64 a); refine (rsignals_any _ ha0 ha1 _).mono ?_; rintro e w' ⟨rfl, rfl⟩) | (go_at_call_of 33 (Value.int IntKind.u64 b); refine (rsignals_any _ hb0 hb1 _).mono ?_; rintro e w' ⟨rfl, rfl⟩) | (go_at_call 32; refine (rcompare_any _ _ ?_ ?_ ?_ ?_ _).mono ?_; omega; omega; omega; omega; rintro e w' ⟨rfl, rfl⟩))
        go_ret3
        exact ⟨ret3 (by rw [e1.out.1]; rfl) e1.out.2.1.symm e1.out.2.2.symm, 0, rfl⟩
      · skip
        go_enter Try.func25, Try.ntmps25
        go_wp2_with (first | (go_at_call 31; refine (rclass_any _ ?_ ?_ _).mono ?_; omega; omega; rintro e w' ⟨rfl, rfl⟩) | (go_at_call_of 33 (Value.int IntKind.u64 a); refine (rsignals_any _ ha0 ha1 _).mono ?_; rintro e w' ⟨rfl, rfl⟩) | (go_at_call_of 33 (Value.int IntKind.u64 b); refine (rsignals_any _ hb0 hb1 _).mono ?_; rintro e w' ⟨rfl, rfl⟩) | (go_at_call 32; refine (rcompare_any _ _ ?_ ?_ ?_ ?_ _).mono ?_; omega; omega; omega; omega; rintro e w' ⟨rfl, rfl⟩))
        go_ret3
        exact ⟨ret3 (by rw [e1.out.1]; rfl) e1.out.2.1.symm e1.out.2.2.symm, 0, rfl⟩
      · rw [q] at ca; exact absurd ca (by decide)
  · have e1 : Hid (doR 3 a.toNat b.toNat = qnan ∧ doT 3 a.toNat b.toNat = 1 ∧ doE 3 = 0) := do_of (by omega) (by omega) hr (by unfold tells; rw [if_pos hs])
    by_cases n1 : 9218868437227405312 < rg a.toNat
    · have ca : cls a.toNat = 4 := (cls_nan _).2 n1
      cases s1 : sigs a.toNat
      · have s2 : sigs b.toNat = true := by rw [s1] at hs; exact hs
        clear h n1 hnn hr hs
        go_enter Try.func25, Try.ntmps25
        go_wp2_with (first | (go_at_call 31; refine (rclass_any _ ?_ ?_ _).mono ?_; omega; omega; rintro e w' ⟨rfl, rfl⟩) | (go_at_call_of 33 (Value.int IntKind.u64 a); refine (rsignals_any _ ha0 ha1 _).mono ?_; rintro e w' ⟨rfl, rfl⟩) | (go_at_call_of 33 (Value.int IntKind.u64 b); refine (rsignals_any _ hb0 hb1 _).mono ?_; rintro e w' ⟨rfl, rfl⟩) | (go_at_call 32; refine (rcompare_any _ _ ?_ ?_ ?_ ?_ _).mono ?_; omega; omega; omega; omega; rintro e w' ⟨rfl, rfl⟩))
        go_ret3
        exact ⟨ret3 (by rw [e1.out.1]; rfl) e1.out.2.1.symm e1.out.2.2.symm, 0, rfl⟩
      · clear h n1 hnn hr hs
        go_enter Try.func25, Try.ntmps25
        go_wp2_with (first | (go_at_call 31; refine (rclass_any _ ?_ ?_ _).mono ?_; omega; omega; rintro e w' ⟨rfl, rfl⟩) | (go_at_call_of 33 (Value.int IntKind.u64 a); refine (rsignals_any _ ha0 ha1 _).mono ?_; rintro e w' ⟨rfl, rfl⟩) | (go_at_call_of 33 (Value.int IntKind.u64 b); refine (rsignals_any _ hb0 hb1 _).mono ?_; rintro e w' ⟨rfl, rfl⟩) | (go_at_call 32; refine (rcompare_any _ _ ?_ ?_ ?_ ?_ _).mono ?_; omega; omega; omega; omega; rintro e w' ⟨rfl, rfl⟩))
        go_ret3
        exact ⟨ret3 (by rw [e1.out.1]; rfl) e1.out.2.1.symm e1.out.2.2.symm, 0, rfl⟩
    · have ca := cls_no n1
      have cb : cls b.toNat = 4 := (cls_nan _).2 (h.resolve_left n1)
      have s1 := sigs_no n1
      have s2 : sigs b.toNat = true := by rw [s1] at hs; exact hs
      clear h n1 hnn hr hs
      go_enter Try.func25, Try.ntmps25
      go_wp2_with (first | (go_at_call 31; refine (rclass_any _ ?_ ?_ _).mono ?_; omega; omega; rintro e w' ⟨rfl, rfl⟩) | (go_at_call_of 33 (Value.int IntKind.u64 a); refine (rsignals_any _ ha0 ha1 _).mono ?_; rintro e w' ⟨rfl, rfl⟩) | (go_at_call_of 33 (Value.int IntKind.u64 b); refine (rsignals_any _ hb0 hb1 _).mono ?_; rintro e w' ⟨rfl, rfl⟩) | (go_at_call 32; refine (rcompare_any _ _ ?_ ?_ ?_ ?_ _).mono ?_; omega; omega; omega; omega; rintro e w' ⟨rfl, rfl⟩))
      go_ret3
      exact ⟨ret3 (by rw [e1.out.1]; rfl) e1.out.2.1.symm e1.out.2.2.symm, 0, rfl⟩


set_option maxRecDepth 100000 in
set_option maxHeartbeats 400000 in
theorem rdo_nan4 (a b : Int) (ha0 : 0 ≤ a) (ha1 : a < 18446744073709551616) (hb0 : 0 ≤ b) (hb1 : b < 18446744073709551616) (w : World) (h : 9218868437227405312 < rg a.toNat ∨ 9218868437227405312 < rg b.toNat) :
    Calls Try.prog 25 #[.int .i64 4, .int .u64 a, .int .u64 b] w fun e w' => e = .returned (.tuple #[.int .u64 (doR 4 a.toNat b.toNat : Nat), .int .i64 (doT 4 a.toNat b.toNat), .int .i64 (doE 4)]) ∧ ∃ n, w' = w.drewN n := by
  have hr : reck 4 a.toNat b.toNat = qnan := by unfold reck; rw [if_pos h]
  have hcq := cls_qn
  have hfb := frombits_run
  have hnn : cls a.toNat = 4 ∨ cls b.toNat = 4 := h.imp (cls_nan _).2 (cls_nan _).2
  cases hs : (sigs a.toNat || sigs b.toNat)
  · have hs1 : sigs a.toNat = false := by simp at hs; exact hs.1
    have hs2 : sigs b.toNat = false := by simp at hs; exact hs.2
    have e1 : Hid (doR 4 a.toNat b.toNat = qnan ∧ doT 4 a.toNat b.toNat = 0 ∧ doE 4 = 0) := do_of (by omega) (by omega) hr (by unfold tells; rw [if_neg (by rw [hs]; decide), if_pos hnn])
    clear hs
    by_cases n1 : 9218868437227405312 < rg a.toNat
    · have ca : cls a.toNat = 4 := (cls_nan _).2 n1
      clear h n1 hnn hr
      go_enter Try.func25, Try.ntmps25
      go_wp2_with (first | (go_at_call 31; refine (rclass_any _ ?_ ?_ _).mono ?_; omega; omega; rintro e w' ⟨rfl, rfl⟩) | (go_at_call_of 33 (Value.int IntKind.u64 a); refine (rsignals_any _ ha0 ha1 _).mono ?_; rintro e w' ⟨rfl, rfl⟩) | (go_at_call_of 33 (Value.int IntKind.u64 b); refine (rsignals_any _ hb0 hb1 _).mono ?_; rintro e w' ⟨rfl, rfl⟩) | (go_at_call 32; refine (rcompare_any _ _ ?_ ?_ ?_ ?_ _).mono ?_; omega; omega; omega; omega; rintro e w' ⟨rfl, rfl⟩))
      go_ret3
      exact ⟨ret3 (by rw [e1.out.1]; rfl) e1.out.2.1.symm e1.out.2.2.symm, 0, rfl⟩
    · have ca := cls_no n1
      have cb : cls b.toNat = 4 := (cls_nan _).2 (h.resolve_left n1)
      clear h n1 hnn hr
      rcases cls_range a.toNat with q | q | q | q | q
      · skip
        go_enter Try.func25, Try.ntmps25
        go_wp2_with (first | (go_at_call 31; refine (rclass_any _ ?_ ?_ _).mono ?_; omega; omega; rintro e w' ⟨rfl, rfl⟩) | (go_at_call_of 33 (Value.int IntKind.u64 a); refine (rsignals_any _ ha0 ha1 _).mono ?_; rintro e w' ⟨rfl, rfl⟩) | (go_at_call_of 33 (Value.int IntKind.u64 b); refine (rsignals_any _ hb0 hb1 _).mono ?_; rintro e w' ⟨rfl, rfl⟩) | (go_at_call 32; refine (rcompare_any _ _ ?_ ?_ ?_ ?_ _).mono ?_; omega; omega; omega; omega; rintro e w' ⟨rfl, rfl⟩))
        go_ret3
        exact ⟨ret3 (by rw [e1.out.1]; rfl) e1.out.2.1.symm e1.out.2.2.symm, 0, rfl⟩
      · skip
        go_enter Try.func25, Try.ntmps25
        go_wp2_with (first | (go_at_call 31; refine (rclass_any _ ?_ ?_ _).mono ?_; omega; omega; rintro e w' ⟨rfl, rfl⟩) | (go_at_call_of 33 (Value.int IntKind.u64 a); refine (rsignals_any _ ha0 ha1 _).mono ?_; rintro e w' ⟨rfl, rfl⟩) | (go_at_call_of 33 (Value.int IntKind.u64 b); refine (rsignals_any _ hb0 hb1 _).mono ?_; rintro e w' ⟨rfl, rfl⟩) | (go_at_call 32; refine (rcompare_any _ _ ?_ ?_ ?_ ?_ _).mono ?_; omega; omega; omega; omega; rintro e w' ⟨rfl, rfl⟩))
        go_ret3
        exact ⟨ret3 (by rw [e1.out.1]; rfl) e1.out.2.1.symm e1.out.2.2.symm, 0, rfl⟩
      · skip
        go_enter Try.func25, Try.ntmps25
        go_wp2_with (first | (go_at_call 31; refine (rclass_any _ ?_ ?_ _).mono ?_; omega; omega; rintro e w' ⟨rfl, rfl⟩) | (go_at_call_of 33 (Value.int IntKind.u64 a); refine (rsignals_any _ ha0 ha1 _).mono ?_; rintro e w' ⟨rfl, rfl⟩) | (go_at_call_of 33 (Value.int IntKind.u64 b); refine (rsignals_any _ hb0 hb1 _).mono ?_; rintro e w' ⟨rfl, rfl⟩) | (go_at_call 32; refine (rcompare_any _ _ ?_ ?_ ?_ ?_ _).mono ?_; omega; omega; omega; omega; rintro e w' ⟨rfl, rfl⟩))
        go_ret3
        exact ⟨ret3 (by rw [e1.out.1]; rfl) e1.out.2.1.symm e1.out.2.2.symm, 0, rfl⟩
      · skip
        go_enter Try.func25, Try.ntmps25
        go_wp2_with (first | (go_at_call 31; refine (rclass_any _ ?_ ?_ _).mono ?_; omega; omega; rintro e w' ⟨rfl, rfl⟩) | (go_at_call_of 33 (Value.int IntKind.u64 a); refine (rsignals_any _ ha0 ha1 _).mono ?_; rintro e w' ⟨rfl, rfl⟩) | (go_at_call_of 33 (Value.int IntKind.u64 b); refine (rsignals_any _ hb0 hb1 _).mono ?_; rintro e w' ⟨rfl, rfl⟩) | (go_at_call 32; refine (rcompare_any _ _ ?_ ?_ ?_ ?_ _).mono ?_; omega; omega; omega; omega; rintro e w' ⟨rfl, rfl⟩))
        go_ret3
        exact ⟨ret3 (by rw [e1.out.1]; rfl) e1.out.2.1.symm e1.out.2.2.symm, 0, rfl⟩
      · rw [q] at ca; exact absurd ca (by decide)
  · have e1 : Hid (doR 4 a.toNat b.toNat = qnan ∧ doT 4 a.toNat b.toNat = 1 ∧ doE 4 = 0) := do_of (by omega) (by omega) hr (by unfold tells; rw [if_pos hs])
    by_cases n1 : 9218868437227405312 < rg a.toNat
    · have ca : cls a.toNat = 4 := (cls_nan _).2 n1
      cases s1 : sigs a.toNat
      · have s2 : sigs b.toNat = true := by rw [s1] at hs; exact hs
        clear h n1 hnn hr hs
        go_enter Try.func25, Try.ntmps25
        go_wp2_with (first | (go_at_call 31; refine (rclass_any _ ?_ ?_ _).mono ?_; omega; omega; rintro e w' ⟨rfl, rfl⟩) | (go_at_call_of 33 (Value.int IntKind.u64 a); refine (rsignals_any _ ha0 ha1 _).mono ?_; rintro e w' ⟨rfl, rfl⟩) | (go_at_call_of 33 (Value.int IntKind.u64 b); refine (rsignals_any _ hb0 hb1 _).mono ?_; rintro e w' ⟨rfl, rfl⟩) | (go_at_call 32; refine (rcompare_any _ _ ?_ ?_ ?_ ?_ _).mono ?_; omega; omega; omega; omega; rintro e w' ⟨rfl, rfl⟩))
        go_ret3
        exact ⟨ret3 (by rw [e1.out.1]; rfl) e1.out.2.1.symm e1.out.2.2.symm, 0, rfl⟩
      · clear h n1 hnn hr hs
        go_enter Try.func25, Try.ntmps25
        go_wp2_with (first | (go_at_call 31; refine (rclass_any _ ?_ ?_ _).mono ?_; omega; omega; rintro e w' ⟨rfl, rfl⟩) | (go_at_call_of 33 (Value.int IntKind.u64 a); refine (rsignals_any _ ha0 ha1 _).mono ?_; rintro e w' ⟨rfl, rfl⟩) | (go_at_call_of 33 (Value.int IntKind.u64 b); refine (rsignals_any _ hb0 hb1 _).mono ?_; rintro e w' ⟨rfl, rfl⟩) | (go_at_call 32; refine (rcompare_any _ _ ?_ ?_ ?_ ?_ _).mono ?_; omega; omega; omega; omega; rintro e w' ⟨rfl, rfl⟩))
        go_ret3
        exact ⟨ret3 (by rw [e1.out.1]; rfl) e1.out.2.1.symm e1.out.2.2.symm, 0, rfl⟩
    · have ca := cls_no n1
      have cb : cls b.toNat = 4 := (cls_nan _).2 (h.resolve_left n1)
      have s1 := sigs_no n1
      have s2 : sigs b.toNat = true := by rw [s1] at hs; exact hs
      clear h n1 hnn hr hs
      go_enter Try.func25, Try.ntmps25
      go_wp2_with (first | (go_at_call 31; refine (rclass_any _ ?_ ?_ _).mono ?_; omega; omega; rintro e w' ⟨rfl, rfl⟩) | (go_at_call_of 33 (Value.int IntKind.u64 a); refine (rsignals_any _ ha0 ha1 _).mono ?_; rintro e w' ⟨rfl, rfl⟩) | (go_at_call_of 33 (Value.int IntKind.u64 b); refine (rsignals_any _ hb0 hb1 _).mono ?_; rintro e w' ⟨rfl, rfl⟩) | (go_at_call 32; refine (rcompare_any _ _ ?_ ?_ ?_ ?_ _).mono ?_; omega; omega; omega; omega; rintro e w' ⟨rfl, rfl⟩))
      go_ret3
      exact ⟨ret3 (by rw [e1.out.1]; rfl) e1.out.2.1.symm e1.out.2.2.symm, 0, rfl⟩


set_option maxRecDepth 100000 in
set_option maxHeartbeats 400000 in
theorem rdo_nan5 (a b : Int) (ha0 : 0 ≤ a) (ha1 : a < 18446744073709551616) (hb0 : 0 ≤ b) (hb1 : b < 18446744073709551616) (w : World) (h : 9218868437227405312 < rg a.toNat ∨ 9218868437227405312 < rg b.toNat) :
    Calls Try.prog 25 #[.int .i64 5, .int .u64 a, .int .u64 b] w fun e w' => e = .returned (.tuple #[.int .u64 (doR 5 a.toNat b.toNat : Nat), .int .i64 (doT 5 a.toNat b.toNat), .int .i64 (doE 5)]) ∧ ∃ n, w' = w.drewN n := by
  have hr : reck 5 a.toNat b.toNat = qnan := by unfold reck; rw [if_pos h]
  have hcq := cls_qn
  have hfb := frombits_run
  have hnn : cls a.toNat = 4 ∨ cls b.toNat = 4 := h.imp (cls_nan _).2 (cls_nan _).2
  cases hs : (sigs a.toNat || sigs b.toNat)
  · have hs1 : sigs a.toNat = false := by simp at hs; exact hs.1
    have hs2 : sigs b.toNat = false := by simp at hs; exact hs.2
    have e1 : Hid (doR 5 a.toNat b.toNat = qnan ∧ doT 5 a.toNat b.toNat = 0 ∧ doE 5 = 0) := do_of (by omega) (by omega) hr (by unfold tells; rw [if_neg (by rw [hs]; decide), if_pos hnn])
    clear hs
    by_cases n1 : 9218868437227405312 < rg a.toNat
    · have ca : cls a.toNat = 4 := (cls_nan _).2 n1
      clear h n1 hnn hr
      go_enter Try.func25, Try.ntmps25
      go_wp2_with (first | (go_at_call 31; refine (rclass_any _ ?_ ?_ _).mono ?_; omega; omega; rintro e w' ⟨rfl, rfl⟩) | (go_at_call_of 33 (Value.int IntKind.u64 a); refine (rsignals_any _ ha0 ha1 _).mono ?_; rintro e w' ⟨rfl, rfl⟩) | (go_at_call_of 33 (Value.int IntKind.u64 b); refine (rsignals_any _ hb0 hb1 _).mono ?_; rintro e w' ⟨rfl, rfl⟩) | (go_at_call 32; refine (rcompare_any _ _ ?_ ?_ ?_ ?_ _).mono ?_; omega; omega; omega; omega; rintro e w' ⟨rfl, rfl⟩))
      go_ret3
      exact ⟨ret3 (by rw [e1.out.1]; rfl) e1.out.2.1.symm e1.out.2.2.symm, 0, rfl⟩
    · have ca := cls_no n1
      have cb : cls b.toNat = 4 := (cls_nan _).2 (h.resolve_left n1)
      clear h n1 hnn hr
      rcases cls_range a.toNat with q | q | q | q | q
      · skip
        go_enter Try.func25, Try.ntmps25
        go_wp2_with (first | (go_at_call 31; refine (rclass_any _ ?_ ?_ _).mono ?_; omega; omega; rintro e w' ⟨rfl, rfl⟩) | (go_at_call_of 33 (Value.int IntKind.u64 a); refine (rsignals_any _ ha0 ha1 _).mono ?_; rintro e w' ⟨rfl, rfl⟩) | (go_at_call_of 33 (Value.int IntKind.u64 b); refine (rsignals_any _ hb0 hb1 _).mono ?_; rintro e w' ⟨rfl, rfl⟩) | (go_at_call 32; refine (rcompare_any _ _ ?_ ?_ ?_ ?_ _).mono ?_; omega; omega; omega; omega; rintro e w' ⟨rfl, rfl⟩))
        go_ret3
        exact ⟨ret3 (by rw [e1.out.1]; rfl) e1.out.2.1.symm e1.out.2.2.symm, 0, rfl⟩
      · skip
        go_enter Try.func25, Try.ntmps25
        go_wp2_with (first | (go_at_call 31; refine (rclass_any _ ?_ ?_ _).mono ?_; omega; omega; rintro e w' ⟨rfl, rfl⟩) | (go_at_call_of 33 (Value.int IntKind.u64 a); refine (rsignals_any _ ha0 ha1 _).mono ?_; rintro e w' ⟨rfl, rfl⟩) | (go_at_call_of 33 (Value.int IntKind.u64 b); refine (rsignals_any _ hb0 hb1 _).mono ?_; rintro e w' ⟨rfl, rfl⟩) | (go_at_call 32; refine (rcompare_any _ _ ?_ ?_ ?_ ?_ _).mono ?_; omega; omega; omega; omega; rintro e w' ⟨rfl, rfl⟩))
        go_ret3
        exact ⟨ret3 (by rw [e1.out.1]; rfl) e1.out.2.1.symm e1.out.2.2.symm, 0, rfl⟩
      · skip
        go_enter Try.func25, Try.ntmps25
        go_wp2_with (first | (go_at_call 31; refine (rclass_any _ ?_ ?_ _).mono ?_; omega; omega; rintro e w' ⟨rfl, rfl⟩) | (go_at_call_of 33 (Value.int IntKind.u64 a); refine (rsignals_any _ ha0 ha1 _).mono ?_; rintro e w' ⟨rfl, rfl⟩) | (go_at_call_of 33 (Value.int IntKind.u64 b); refine (rsignals_any _ hb0 hb1 _).mono ?_; rintro e w' ⟨rfl, rfl⟩) | (go_at_call 32; refine (rcompare_any _ _ ?_ ?_ ?_ ?_ _).mono ?_; omega; omega; omega; omega; rintro e w' ⟨rfl, rfl⟩))
        go_ret3
        exact ⟨ret3 (by rw [e1.out.1]; rfl) e1.out.2.1.symm e1.out.2.2.symm, 0, rfl⟩
      · skip
        go_enter Try.func25, Try.ntmps25
        go_wp2_with (first | (go_at_call 31; refine (rclass_any _ ?_ ?_ _).mono ?_; omega; omega; rintro e w' ⟨rfl, rfl⟩) | (go_at_call_of 33 (Value.int IntKind.u64 a); refine (rsignals_any _ ha0 ha1 _).mono ?_; rintro e w' ⟨rfl, rfl⟩) | (go_at_call_of 33 (Value.int IntKind.u64 b); refine (rsignals_any _ hb0 hb1 _).mono ?_; rintro e w' ⟨rfl, rfl⟩) | (go_at_call 32; refine (rcompare_any _ _ ?_ ?_ ?_ ?_ _).mono ?_; omega; omega; omega; omega; rintro e w' ⟨rfl, rfl⟩))
        go_ret3
        exact ⟨ret3 (by rw [e1.out.1]; rfl) e1.out.2.1.symm e1.out.2.2.symm, 0, rfl⟩
      · rw [q] at ca; exact absurd ca (by decide)
  · have e1 : Hid (doR 5 a.toNat b.toNat = qnan ∧ doT 5 a.toNat b.toNat = 1 ∧ doE 5 = 0) := do_of (by omega) (by omega) hr (by unfold tells; rw [if_pos hs])
    by_cases n1 : 9218868437227405312 < rg a.toNat
    · have ca : cls a.toNat = 4 := (cls_nan _).2 n1
      cases s1 : sigs a.toNat
      · have s2 : sigs b.toNat = true := by rw [s1] at hs; exact hs
        clear h n1 hnn hr hs
        go_enter Try.func25, Try.ntmps25
        go_wp2_with (first | (go_at_call 31; refine (rclass_any _ ?_ ?_ _).mono ?_; omega; omega; rintro e w' ⟨rfl, rfl⟩) | (go_at_call_of 33 (Value.int IntKind.u64 a); refine (rsignals_any _ ha0 ha1 _).mono ?_; rintro e w' ⟨rfl, rfl⟩) | (go_at_call_of 33 (Value.int IntKind.u64 b); refine (rsignals_any _ hb0 hb1 _).mono ?_; rintro e w' ⟨rfl, rfl⟩) | (go_at_call 32; refine (rcompare_any _ _ ?_ ?_ ?_ ?_ _).mono ?_; omega; omega; omega; omega; rintro e w' ⟨rfl, rfl⟩))
        go_ret3
        exact ⟨ret3 (by rw [e1.out.1]; rfl) e1.out.2.1.symm e1.out.2.2.symm, 0, rfl⟩
      · clear h n1 hnn hr hs
        go_enter Try.func25, Try.ntmps25
        go_wp2_with (first | (go_at_call 31; refine (rclass_any _ ?_ ?_ _).mono ?_; omega; omega; rintro e w' ⟨rfl, rfl⟩) | (go_at_call_of 33 (Value.int IntKind.u64 a); refine (rsignals_any _ ha0 ha1 _).mono ?_; rintro e w' ⟨rfl, rfl⟩) | (go_at_call_of 33 (Value.int IntKind.u64 b); refine (rsignals_any _ hb0 hb1 _).mono ?_; rintro e w' ⟨rfl, rfl⟩) | (go_at_call 32; refine (rcompare_any _ _ ?_ ?_ ?_ ?_ _).mono ?_; omega; omega; omega; omega; rintro e w' ⟨rfl, rfl⟩))
        go_ret3
        exact ⟨ret3 (by rw [e1.out.1]; rfl) e1.out.2.1.symm e1.out.2.2.symm, 0, rfl⟩
    · have ca := cls_no n1
      have cb : cls b.toNat = 4 := (cls_nan _).2 (h.resolve_left n1)
      have s1 := sigs_no n1
      have s2 : sigs b.toNat = true := by rw [s1] at hs; exact hs
      clear h n1 hnn hr hs
      go_enter Try.func25, Try.ntmps25
      go_wp2_with (first | (go_at_call 31; refine (rclass_any _ ?_ ?_ _).mono ?_; omega; omega; rintro e w' ⟨rfl, rfl⟩) | (go_at_call_of 33 (Value.int IntKind.u64 a); refine (rsignals_any _ ha0 ha1 _).mono ?_; rintro e w' ⟨rfl, rfl⟩) | (go_at_call_of 33 (Value.int IntKind.u64 b); refine (rsignals_any _ hb0 hb1 _).mono ?_; rintro e w' ⟨rfl, rfl⟩) | (go_at_call 32; refine (rcompare_any _ _ ?_ ?_ ?_ ?_ _).mono ?_; omega; omega; omega; omega; rintro e w' ⟨rfl, rfl⟩))
      go_ret3
      exact ⟨ret3 (by rw [e1.out.1]; rfl) e1.out.2.1.symm e1.out.2.2.symm, 0, rfl⟩


set_option maxRecDepth 100000 in
set_option maxHeartbeats 400000 in
theorem rdo_nan6 (a b : Int) (ha0 : 0 ≤ a) (ha1 : a < 18446744073709551616) (hb0 : 0 ≤ b) (hb1 : b < 18446744073709551616) (w : World) (h : 9218868437227405312 < rg a.toNat ∨ 9218868437227405312 < rg b.toNat) :
    Calls Try.prog 25 #[.int .i64 6, .int .u64 a, .int .u64 b] w fun e w' => e = .returned (.tuple #[.int .u64 (doR 6 a.toNat b.toNat : Nat), .int .i64 (doT 6 a.toNat b.toNat), .int .i64 (doE 6)]) ∧ ∃ n, w' = w.drewN n := by
  have hr : reck 6 a.toNat b.toNat = qnan := by unfold reck; rw [if_pos h]
  have hcq := cls_qn
  have hfb := frombits_run
  have hnn : cls a.toNat = 4 ∨ cls b.toNat = 4 := h.imp (cls_nan _).2 (cls_nan _).2
  cases hs : (sigs a.toNat || sigs b.toNat)
  · have hs1 : sigs a.toNat = false := by simp at hs; exact hs.1
    have hs2 : sigs b.toNat = false := by simp at hs; exact hs.2
    have e1 : Hid (doR 6 a.toNat b.toNat = qnan ∧ doT 6 a.toNat b.toNat = 0 ∧ doE 6 = 0) := do_of (by omega) (by omega) hr (by unfold tells; rw [if_neg (by rw [hs]; decide), if_pos hnn])
    clear hs
    by_cases n1 : 9218868437227405312 < rg a.toNat
    · have ca : cls a.toNat = 4 := (cls_nan _).2 n1
      clear h n1 hnn hr
      go_enter Try.func25, Try.ntmps25
      go_wp2_with (first | (go_at_call 31; refine (rclass_any _ ?_ ?_ _).mono ?_; omega; omega; rintro e w' ⟨rfl, rfl⟩) | (go_at_call_of 33 (Value.int IntKind.u64 a); refine (rsignals_any _ ha0 ha1 _).mono ?_; rintro e w' ⟨rfl, rfl⟩) | (go_at_call_of 33 (Value.int IntKind.u64 b); refine (rsignals_any _ hb0 hb1 _).mono ?_; rintro e w' ⟨rfl, rfl⟩) | (go_at_call 32; refine (rcompare_any _ _ ?_ ?_ ?_ ?_ _).mono ?_; omega; omega; omega; omega; rintro e w' ⟨rfl, rfl⟩))
      go_ret3
      exact ⟨ret3 (by rw [e1.out.1]; rfl) e1.out.2.1.symm e1.out.2.2.symm, 0, rfl⟩
    · have ca := cls_no n1
      have cb : cls b.toNat = 4 := (cls_nan _).2 (h.resolve_left n1)
      clear h n1 hnn hr
      rcases cls_range a.toNat with q | q | q | q | q
      · skip
        go_enter Try.func25, Try.ntmps25
        go_wp2_with (first | (go_at_call 31; refine (rclass_any _ ?_ ?_ _).mono ?_; omega; omega; rintro e w' ⟨rfl, rfl⟩) | (go_at_call_of 33 (Value.int IntKind.u64 a); refine (rsignals_any _ ha0 ha1 _).mono ?_; rintro e w' ⟨rfl, rfl⟩) | (go_at_call_of 33 (Value.int IntKind.u64 b); refine (rsignals_any _ hb0 hb1 _).mono ?_; rintro e w' ⟨rfl, rfl⟩) | (go_at_call 32; refine (rcompare_any _ _ ?_ ?_ ?_ ?_ _).mono ?_; omega; omega; omega; omega; rintro e w' ⟨rfl, rfl⟩))
        go_ret3
        exact ⟨ret3 (by rw [e1.out.1]; rfl) e1.out.2.1.symm e1.out.2.2.symm, 0, rfl⟩
      · skip
        go_enter Try.func25, Try.ntmps25
        go_wp2_with (first | (go_at_call 31; refine (rclass_any _ ?_ ?_ _).mono ?_; omega; omega; rintro e w' ⟨rfl, rfl⟩) | (go_at_call_of 33 (Value.int IntKind.u64 a); refine (rsignals_any _ ha0 ha1 _).mono ?_; rintro e w' ⟨rfl, rfl⟩) | (go_at_call_of 33 (Value.int IntKind.u64 b); refine (rsignals_any _ hb0 hb1 _).mono ?_; rintro e w' ⟨rfl, rfl⟩) | (go_at_call 32; refine (rcompare_any _ _ ?_ ?_ ?_ ?_ _).mono ?_; omega; omega; omega; omega; rintro e w' ⟨rfl, rfl⟩))
        go_ret3
        exact ⟨ret3 (by rw [e1.out.1]; rfl) e1.out.2.1.symm e1.out.2.2.symm, 0, rfl⟩
      · skip
        go_enter Try.func25, Try.ntmps25
        go_wp2_with (first | (go_at_call 31; refine (rclass_any _ ?_ ?_ _).mono ?_; omega; omega; rintro e w' ⟨rfl, rfl⟩) | (go_at_call_of 33 (Value.int IntKind.u64 a); refine (rsignals_any _ ha0 ha1 _).mono ?_; rintro e w' ⟨rfl, rfl⟩) | (go_at_call_of 33 (Value.int IntKind.u64 b); refine (rsignals_any _ hb0 hb1 _).mono ?_; rintro e w' ⟨rfl, rfl⟩) | (go_at_call 32; refine (rcompare_any _ _ ?_ ?_ ?_ ?_ _).mono ?_; omega; omega; omega; omega; rintro e w' ⟨rfl, rfl⟩))
        go_ret3
        exact ⟨ret3 (by rw [e1.out.1]; rfl) e1.out.2.1.symm e1.out.2.2.symm, 0, rfl⟩
      · skip
        go_enter Try.func25, Try.ntmps25
        go_wp2_with (first | (go_at_call 31; refine (rclass_any _ ?_ ?_ _).mono ?_; omega; omega; rintro e w' ⟨rfl, rfl⟩) | (go_at_call_of 33 (Value.int IntKind.u64 a); refine (rsignals_any _ ha0 ha1 _).mono ?_; rintro e w' ⟨rfl, rfl⟩) | (go_at_call_of 33 (Value.int IntKind.u64 b); refine (rsignals_any _ hb0 hb1 _).mono ?_; rintro e w' ⟨rfl, rfl⟩) | (go_at_call 32; refine (rcompare_any _ _ ?_ ?_ ?_ ?_ _).mono ?_; omega; omega; omega; omega; rintro e w' ⟨rfl, rfl⟩))
        go_ret3
        exact ⟨ret3 (by rw [e1.out.1]; rfl) e1.out.2.1.symm e1.out.2.2.symm, 0, rfl⟩
      · rw [q] at ca; exact absurd ca (by decide)
  · have e1 : Hid (doR 6 a.toNat b.toNat = qnan ∧ doT 6 a.toNat b.toNat = 1 ∧ doE 6 = 0) := do_of (by omega) (by omega) hr (by unfold tells; rw [if_pos hs])
    by_cases n1 : 9218868437227405312 < rg a.toNat
    · have ca : cls a.toNat = 4 := (cls_nan _).2 n1
      cases s1 : sigs a.toNat
      · have s2 : sigs b.toNat = true := by rw [s1] at hs; exact hs
        clear h n1 hnn hr hs
        go_enter Try.func25, Try.ntmps25
        go_wp2_with (first | (go_at_call 31; refine (rclass_any _ ?_ ?_ _).mono ?_; omega; omega; rintro e w' ⟨rfl, rfl⟩) | (go_at_call_of 33 (Value.int IntKind.u64 a); refine (rsignals_any _ ha0 ha1 _).mono ?_; rintro e w' ⟨rfl, rfl⟩) | (go_at_call_of 33 (Value.int IntKind.u64 b); refine (rsignals_any _ hb0 hb1 _).mono ?_; rintro e w' ⟨rfl, rfl⟩) | (go_at_call 32; refine (rcompare_any _ _ ?_ ?_ ?_ ?_ _).mono ?_; omega; omega; omega; omega; rintro e w' ⟨rfl, rfl⟩))
        go_ret3
        exact ⟨ret3 (by rw [e1.out.1]; rfl) e1.out.2.1.symm e1.out.2.2.symm, 0, rfl⟩
      · clear h n1 hnn hr hs
        go_enter Try.func25, Try.ntmps25
        go_wp2_with (first | (go_at_call 31; refine (rclass_any _ ?_ ?_ _).mono ?_; omega; omega; rintro e w' ⟨rfl, rfl⟩) | (go_at_call_of 33 (Value.int IntKind.u64 a); refine (rsignals_any _ ha0 ha1 _).mono ?_; rintro e w' ⟨rfl, rfl⟩) | (go_at_call_of 33 (Value.int IntKind.u64 b); refine (rsignals_any _ hb0 hb1 _).mono ?_; rintro e w' ⟨rfl, rfl⟩) | (go_at_call 32; refine (rcompare_any _ _ ?_ ?_ ?_ ?_ _).mono ?_; omega; omega; omega; omega; rintro e w' ⟨rfl, rfl⟩))
        go_ret3
        exact ⟨ret3 (by rw [e1.out.1]; rfl) e1.out.2.1.symm e1.out.2.2.symm, 0, rfl⟩
    · have ca := cls_no n1
      have cb : cls b.toNat = 4 := (cls_nan _).2 (h.resolve_left n1)
      have s1 := sigs_no n1
      have s2 : sigs b.toNat = true := by rw [s1] at hs; exact hs
      clear h n1 hnn hr hs
      go_enter Try.func25, Try.ntmps25
      go_wp2_with (first | (go_at_call 31; refine (rclass_any _ ?_ ?_ _).mono ?_; omega; omega; rintro e w' ⟨rfl, rfl⟩) | (go_at_call_of 33 (Value.int IntKind.u64 a); refine (rsignals_any _ ha0 ha1 _).mono ?_; rintro e w' ⟨rfl, rfl⟩) | (go_at_call_of 33 (Value.int IntKind.u64 b); refine (rsignals_any _ hb0 hb1 _).mono ?_; rintro e w' ⟨rfl, rfl⟩) | (go_at_call 32; refine (rcompare_any _ _ ?_ ?_ ?_ ?_ _).mono ?_; omega; omega; omega; omega; rintro e w' ⟨rfl, rfl⟩))
      go_ret3
      exact ⟨ret3 (by rw [e1.out.1]; rfl) e1.out.2.1.symm e1.out.2.2.symm, 0, rfl⟩

end Go.Proofs.Ytcieglidghnidaa
