/- For any operation and any two numbers' bits, a result of flt.Do's operations 1 to 6 is no NaN or the one NaN, which compares as neither less nor greater nor equal, and a NaN that doesn't signal tells nothing; no condition. -/
import Derived.Test.YtpfmkhnogobioabRows
import Derived.WalkKit
import Derived.ProofKit
import Derived.OpenShut
import Derived.Test.YtpfmkhnogobioabAwake
namespace Go.Proofs.Ytpfmkhnogobioab.fltNaNs
open Go.ChangeShapes Go.WideShapes Go.ChangeAt Go.RowKit
open FltM
set_option linter.unusedSimpArgs false
set_option linter.unusedVariables false

theorem own : ownKnob Try.prog.godebug = none := by kernel_rfl

theorem cmp_qr (x : Nat) : cmpF x 9221120237041090560 = 2 := by
  unfold cmpF; rw [if_pos (Or.inr (by decide))]
theorem cmp_ql (x : Nat) : cmpF 9221120237041090560 x = 2 := by
  unfold cmpF; rw [if_pos (Or.inl (by decide))]
theorem tells_range (op : Int) (a b r : Nat) : tells op a b r = 0 ∨ tells op a b r = 1 ∨ tells op a b r = 2 ∨ tells op a b r = 4 := by
  unfold tells; repeat' split
  all_goals simp
theorem tells_none (op : Int) (a b r : Nat) (h : cls a = 4 ∨ cls b = 4) : tells op a b r = 0 ∨ tells op a b r = 1 := by
  unfold tells; rw [if_pos h]; split
  · simp
  · simp
theorem getD_nan {d : Option Nat} (hd : ∀ r, d = some r → ¬ 9218868437227405312 < rg r) (h : 9218868437227405312 < rg (d.getD qnan)) : d.getD qnan = qnan := by
  cases d with
  | none => rfl
  | some r => exact absurd h (hd r rfl)
theorem reck_one (op : Int) (a b : Nat) (h : 9218868437227405312 < rg (reck op a b)) : reck op a b = qnan := by
  unfold reck at *
  by_cases c : 9218868437227405312 < rg a ∨ 9218868437227405312 < rg b
  · rw [if_pos c]
  · rw [if_neg c] at *
    split at h
    · rw [if_pos (by assumption)]; exact getD_nan (fun _ => add_not_nan) h
    · rw [if_neg (by assumption)]
      split at h
      · rw [if_pos (by assumption)]; exact getD_nan (fun _ => sub_not_nan) h
      · rw [if_neg (by assumption)]
        split at h
        · rw [if_pos (by assumption)]; exact getD_nan (fun _ => mul_not_nan) h
        · rw [if_neg (by assumption)]
          split at h
          · rw [if_pos (by assumption)]; exact getD_nan (fun _ => div_not_nan) h
          · rw [if_neg (by assumption)]
            split at h
            · exact absurd h (minF_num (fun k => c (Or.inl k)) (fun k => c (Or.inr k)))
            · exact absurd h (maxF_num (fun k => c (Or.inl k)) (fun k => c (Or.inr k)))

set_option maxHeartbeats 1000000 in
theorem walk (a0 : Int) (a1 : Int) (a2 : Int) (w0 : (Lit.int .i64 a0).wf = true) (w1 : (Lit.int .u64 a1).wf = true) (w2 : (Lit.int .u64 a2).wf = true) (w : World) :
    Calls Try.prog 7 #[.int .i64 a0, .int .u64 a1, .int .u64 a2] w fun e w' => e = .returned (.bool true) ∧ Grown w w' := by
  have u1 : 0 ≤ a1 ∧ a1 < 18446744073709551616 := by simp [Lit.wf, IntKind.min, IntKind.max, IntKind.signed, IntKind.bits] at w1; omega
  have u2 : 0 ≤ a2 ∧ a2 < 18446744073709551616 := by simp [Lit.wf, IntKind.min, IntKind.max, IntKind.signed, IntKind.bits] at w2; omega
  obtain ⟨p1, q1⟩ := u1
  obtain ⟨p2, q2⟩ := u2
  clear w0 w1 w2
  by_cases c1 : a0 < 1
  · go_enter Try.func7, Try.ntmps7
    go_wp2_with (go_at_call 9; refine (awake_any _).mono ?_; rintro e w' ⟨rfl, n, rfl⟩)
    go_ret
    exact ⟨rfl, grown_drewN (Grown.refl _) _⟩
  by_cases c2 : 6 < a0
  · go_enter Try.func7, Try.ntmps7
    go_wp2_with (go_at_call 9; refine (awake_any _).mono ?_; rintro e w' ⟨rfl, n, rfl⟩)
    go_ret
    exact ⟨rfl, grown_drewN (Grown.refl _) _⟩
  have m1 := cmp_qr
  have m2 := cmp_ql
  have hE : doE a0 = 0 := by unfold doE; rw [if_neg (by omega)]
  have hR : doR a0 a1.toNat a2.toNat = reck a0 a1.toNat a2.toNat := by unfold doR; rw [if_neg (by omega), if_neg (by omega), if_neg (by omega)]
  have hT : doT a0 a1.toNat a2.toNat = tells a0 a1.toNat a2.toNat (reck a0 a1.toNat a2.toNat) := by unfold doT; rw [if_neg (by omega)]
  have hlt : doR a0 a1.toNat a2.toNat < 18446744073709551616 := doR_lt a0 (by omega) (by omega)
  have cq := cls_qnan
  by_cases h : 9218868437227405312 < rg a1.toNat ∨ 9218868437227405312 < rg a2.toNat
  · have hq : reck a0 a1.toNat a2.toNat = 9221120237041090560 := by unfold reck; rw [if_pos h]; rfl
    rw [hq] at hR
    have ht := tells_none a0 a1.toNat a2.toNat (reck a0 a1.toNat a2.toNat) (h.imp (cls_nan _).2 (cls_nan _).2)
    rw [← hT] at ht
    clear hT hq hlt
    by_cases n1 : 9218868437227405312 < rg a1.toNat
    · have k1 := cls_yes n1
      clear h n1
      rcases ht with ht | ht
      all_goals
        go_enter Try.func7, Try.ntmps7
        go_wp2_with (first | (go_at_call 9; refine (awake_any _).mono ?_; rintro e w' ⟨rfl, n, rfl⟩) | (go_at_call 14; refine (do_any a0 a1 a2 p1 q1 p2 q2 _).mono ?_; rintro e w' ⟨rfl, n1, rfl⟩) | (go_at_call 10; refine (class_any _ ?_ ?_ _).mono ?_; omega; omega; rintro e w' ⟨rfl, rfl⟩) | (go_at_call 12; refine (compare_any _ _ _).mono ?_; rintro e w' ⟨rfl, rfl⟩))
        go_ret
        exact ⟨rfl, grown_drewN (Grown.refl _) _⟩
    · have k1 := cls_no n1
      have k2 := cls_yes (h.resolve_left n1)
      clear h n1
      rcases ht with ht | ht
      all_goals
        go_enter Try.func7, Try.ntmps7
        go_wp2_with (first | (go_at_call 9; refine (awake_any _).mono ?_; rintro e w' ⟨rfl, n, rfl⟩) | (go_at_call 14; refine (do_any a0 a1 a2 p1 q1 p2 q2 _).mono ?_; rintro e w' ⟨rfl, n1, rfl⟩) | (go_at_call 10; refine (class_any _ ?_ ?_ _).mono ?_; omega; omega; rintro e w' ⟨rfl, rfl⟩) | (go_at_call 12; refine (compare_any _ _ _).mono ?_; rintro e w' ⟨rfl, rfl⟩))
        go_ret
        exact ⟨rfl, grown_drewN (Grown.refl _) _⟩
  · have k1 := cls_no (fun k => h (Or.inl k))
    have k2 := cls_no (fun k => h (Or.inr k))
    have ht := tells_range a0 a1.toNat a2.toNat (reck a0 a1.toNat a2.toNat)
    rw [← hT] at ht
    by_cases hx : 9218868437227405312 < rg (reck a0 a1.toNat a2.toNat)
    · have hq : reck a0 a1.toNat a2.toNat = 9221120237041090560 := reck_one _ _ _ hx
      rw [hq] at hR
      clear hT hq hlt hx h
      rcases ht with ht | ht | ht | ht
      all_goals
        go_enter Try.func7, Try.ntmps7
        go_wp2_with (first | (go_at_call 9; refine (awake_any _).mono ?_; rintro e w' ⟨rfl, n, rfl⟩) | (go_at_call 14; refine (do_any a0 a1 a2 p1 q1 p2 q2 _).mono ?_; rintro e w' ⟨rfl, n1, rfl⟩) | (go_at_call 10; refine (class_any _ ?_ ?_ _).mono ?_; omega; omega; rintro e w' ⟨rfl, rfl⟩) | (go_at_call 12; refine (compare_any _ _ _).mono ?_; rintro e w' ⟨rfl, rfl⟩))
        go_ret
        exact ⟨rfl, grown_drewN (Grown.refl _) _⟩
    · have k3 : (cls (doR a0 a1.toNat a2.toNat) == 4) = false := by rw [hR]; exact cls_no hx
      clear hT hx h hR
      rcases ht with ht | ht | ht | ht
      all_goals
        go_enter Try.func7, Try.ntmps7
        go_wp2_with (first | (go_at_call 9; refine (awake_any _).mono ?_; rintro e w' ⟨rfl, n, rfl⟩) | (go_at_call 14; refine (do_any a0 a1 a2 p1 q1 p2 q2 _).mono ?_; rintro e w' ⟨rfl, n1, rfl⟩) | (go_at_call 10; refine (class_any _ ?_ ?_ _).mono ?_; omega; omega; rintro e w' ⟨rfl, rfl⟩) | (go_at_call 12; refine (compare_any _ _ _).mono ?_; rintro e w' ⟨rfl, rfl⟩))
        go_ret
        exact ⟨rfl, grown_drewN (Grown.refl _) _⟩

set_option maxRecDepth 100000 in
theorem lifted (os : Os) (started : os.Started) (H : Type) (enc : TypeId × Value → H) :
    ReturnsInHanded {} Try.checked os 7 .any (Rows.fltNaNsSpec.pre6 enc Try.prog Try.f7 Rows.fltNaNsRow.domain false) (Rows.fltNaNsSpec.post enc Try.prog Try.f7 false true false false) := by
  refine returnsInHanded_of_change (C := Try.checked) own started (by kernel_rfl) Try.func7
    (ChangeSpec.witness6 (enc := enc) (C := Try.checked) false ⟨#[], #[.int .i64 0, .int .u64 0, .int .u64 0], []⟩ 8 (by kernel_rfl) (by kernel_rfl) (by kernel_rfl) (by kernel_rfl)) ?_
  intro W base args ds gs before hval0 hW hcnd _
  have hval : ∀ (j : Nat) t v, Try.f7.params[j]? = some t → args[j]? = some v → Value.okWide Try.prog W .any base t v := hval0
  have hW' := hW
  obtain ⟨p, q, hA0, hV, rfl, hfz, hnd⟩ := hW
  have hA : DataW.TrodAll enc Try.prog W 0 (fun _ => true) true Try.f7.params.toList args.toList ds p := hA0
  rw [Try.params7] at hA hval
  obtain ⟨v0, vs0, d0, ds0, p0, q0, hargs, rfl, rfl, h0, r0⟩ := trodAll_cons hA
  obtain ⟨v1, vs1, d1, ds1, p1, q1, rfl, rfl, rfl, h1, r1⟩ := trodAll_cons r0
  obtain ⟨v2, vs2, d2, ds2, p2, q2, rfl, rfl, rfl, h2, r2⟩ := trodAll_cons r1
  obtain ⟨rfl, rfl, rfl⟩ := trodAll_nil r2
  obtain rfl : args = #[v0, v1, v2] := by cases args; simp_all
  obtain ⟨rfl, rfl⟩ := trodVars_none hV
  obtain ⟨a0, rfl, rfl, rfl, w0⟩ := open_int Try.underlying3 (hval 0 3 v0 rfl rfl) h0
  obtain ⟨a1, rfl, rfl, rfl, w1⟩ := open_int Try.underlying22 (hval 1 22 v1 rfl rfl) h1
  obtain ⟨a2, rfl, rfl, rfl, w2⟩ := open_int Try.underlying22 (hval 2 22 v2 rfl rfl) h2
  clear hA0 hval0
  simp only [List.append_nil] at hW'
  refine (walk a0 a1 a2 w0 w1 w2 W).mono fun e W' ⟨he, hg⟩ => ?_
  subst he
  exact ⟨_, rfl, post_of_same (pa := []) (pv := []) hW' (fun _ _ _ => (trodAll_cons_mk (shut_bool Try.underlying4 _) trodAll_mk0)) (fun sp _ => (trodAll_cons_mk (shut_int Try.underlying3 w0) (trodAll_cons_mk (shut_int Try.underlying22 w1) (trodAll_cons_mk (shut_int Try.underlying22 w2) trodAll_mk0)))) (fun _ _ => rfl) rfl
    (hg.frame _) hg.2.1 (ok_one (by kernel_rfl) rfl (okWide_bool_mk Try.underlying4 _))⟩

theorem over : Rows.fltNaNsRow.holds Try.pinned (OpenSpec.ofChange Rows.fltNaNsSpec) :=
  OpenClaim.holds_of_wide 7 Try.f7 rfl rfl rfl rfl rfl rfl rfl ⟨rfl, rfl, rfl, rfl, rfl⟩ rfl rfl rfl rfl rfl (by kernel_rfl) Try.func7 (by kernel_rfl)
    (of_decide_eq_true (by kernel_rfl)) (by unfold Func.isWrapper; first | (rw [if_pos (by decide +kernel)]; kernel_rfl) | (rw [if_neg (by decide +kernel)]; exact ⟨rfl, rfl⟩))
    (fun os started H enc _ => lifted os started H enc)

theorem proved : Rows.FltNaNsSaid :=
  over
#print axioms proved
end Go.Proofs.Ytpfmkhnogobioab.fltNaNs
