/- For any number's bits that are no NaN's, flt.Do gives the number itself for it and nought, less nought, times one and by one, and twice its half is itself if that isn't too small; no condition. -/
import Derived.Test.YtpfmkhnogobioacRows
import Derived.WalkKit
import Derived.ProofKit
import Derived.OpenShut
import Derived.Test.YtpfmkhnogobioacAt
import Derived.Test.YtpfmkhnogobioacMath3
namespace Go.Proofs.Ytpfmkhnogobioac.fltOnes
open Go.ChangeShapes Go.WideShapes Go.ChangeAt Go.RowKit
open FltM
set_option linter.unusedSimpArgs false
set_option linter.unusedVariables false

theorem own : ownKnob Try.prog.godebug = none := by kernel_rfl


set_option maxHeartbeats 1000000 in
theorem walk (a0 : Int) (w0 : (Lit.int .u64 a0).wf = true) (w : World) :
    Calls Try.prog 4 #[.int .u64 a0] w fun e w' => e = .returned (.bool true) ∧ Grown w w' := by
  have u0 : 0 ≤ a0 ∧ a0 < 18446744073709551616 := by simp [Lit.wf, IntKind.min, IntKind.max, IntKind.signed, IntKind.bits] at w0; omega
  obtain ⟨p0, q0⟩ := u0
  clear w0
  by_cases n0 : 9218868437227405312 < rg a0.toNat
  · have k0 := class_at a0 p0 q0 ((cls_nan _).2 n0)
    clear n0
    go_enter Try.func4, Try.ntmps4
    go_wp2_with fail
    refine (k0.out _).mono ?_
    rintro e w' ⟨rfl, rfl⟩
    go_wp2_with fail
    refine (awake_any _).mono ?_
    rintro e w' ⟨rfl, na, rfl⟩
    go_wp2_with fail
    go_ret
    exact ⟨rfl, grown_drewN (Grown.refl _) _⟩
  obtain ⟨v0, hv0⟩ : ∃ v, cls a0.toNat = v := ⟨_, rfl⟩
  have z0 : (v0 == 4) = false := by rw [← hv0]; exact cls_no n0
  have k0 := class_at a0 p0 q0 hv0
  have l0 : a0.toNat < 18446744073709551616 := by omega
  have i0 : ((a0.toNat : Nat) : Int) = a0 := Int.toNat_of_nonneg p0
  have g1 := from_at 1 (v := 4607182418800017408) (by rw [fromI_one]; rfl)
  have g2 := from_at 2 (v := 4611686018427387904) (by rw [fromI_two]; rfl)
  have m1 : ¬ 9218868437227405312 < rg 4607182418800017408 := by rw [rg_one]; omega
  have m2 : ¬ 9218868437227405312 < rg 4611686018427387904 := by rw [rg_two]; omega
  have mz : ¬ 9218868437227405312 < rg 0 := by unfold rg; omega
  have mn : ¬ 9218868437227405312 < rg 9223372036854775808 := by unfold rg; omega
  have e1 : (4607182418800017408 : Int).toNat = 4607182418800017408 := rfl
  have e2 : (4611686018427387904 : Int).toNat = 4611686018427387904 := rfl
  have e3 : (9223372036854775808 : Int).toNat = 9223372036854775808 := rfl
  obtain ⟨t1, ht1⟩ : ∃ t, doT 1 a0.toNat (9223372036854775808 : Int).toNat = t := ⟨_, rfl⟩
  obtain ⟨t2, ht2⟩ : ∃ t, doT 2 a0.toNat (0 : Int).toNat = t := ⟨_, rfl⟩
  obtain ⟨t3, ht3⟩ : ∃ t, doT 3 a0.toNat (4607182418800017408 : Int).toNat = t := ⟨_, rfl⟩
  have d1 := do_at 1 a0 9223372036854775808 p0 q0 (by omega) (by omega) (x := a0) (z := 0) (by rw [e3, doR_of n0 mn (Or.inl ⟨rfl, add_negzero l0 n0⟩), i0]) ht1 (doE_ok (by omega) (by omega))
  have d2 := do_at 2 a0 0 p0 q0 (by omega) (by omega) (x := a0) (z := 0) (by rw [Int.toNat_zero, doR_of n0 mz (Or.inr (Or.inl ⟨rfl, sub_zero l0 n0⟩)), i0]) ht2 (doE_ok (by omega) (by omega))
  have d3 := do_at 3 a0 4607182418800017408 p0 q0 (by omega) (by omega) (x := a0) (z := 0) (by rw [e1, doR_of n0 m1 (Or.inr (Or.inr (Or.inl ⟨rfl, mul_one' l0 n0⟩))), i0]) ht3 (doE_ok (by omega) (by omega))
  have hdiv : Ieee.double.div a0.toNat 4607182418800017408 = some a0.toNat := div_one l0 n0
  have hr4 : reck 4 a0.toNat 4607182418800017408 = a0.toNat := reck_of n0 m1 (Or.inr (Or.inr (Or.inr ⟨rfl, hdiv⟩)))
  have c2 : cls 4607182418800017408 = 2 := by decide +kernel
  have d4 := do_at 4 a0 4607182418800017408 p0 q0 (by omega) (by omega) (x := a0) (t := 0) (z := 0) (by rw [e1, doR_of n0 m1 (Or.inr (Or.inr (Or.inr ⟨rfl, hdiv⟩))), i0]) (by rw [e1]; unfold doT; rw [if_neg (by omega), hr4]; exact tells_of n0 m1 n0 (fun _ => by rw [c2]; omega) (fun k => Or.inl k)) (doE_ok (by omega) (by omega))
  clear hdiv hr4 ht1 ht2 ht3
  by_cases c : rg a0.toNat < 9007199254740992
  · have hlo : IntKind.u64.wrap (a0 * 2) / 9007199254740992 < 2 := by rw [IntKind.wrap_u64]; unfold rg at c; omega
    clear c n0 m1 m2 mz mn e1 e2 e3 c2 l0 i0 hv0
    go_enter Try.func4, Try.ntmps4
    go_wp2_with fail
    refine (k0.out _).mono ?_
    rintro e w' ⟨rfl, rfl⟩
    go_wp2_with fail
    refine (g1.out _).mono ?_
    rintro e w' ⟨rfl, rfl⟩
    go_wp2_with fail
    refine (g2.out _).mono ?_
    rintro e w' ⟨rfl, rfl⟩
    go_wp2_with fail
    refine (d1.out _).mono ?_
    rintro e w' ⟨rfl, nd1, rfl⟩
    go_wp2_with fail
    refine (d2.out _).mono ?_
    rintro e w' ⟨rfl, nd2, rfl⟩
    go_wp2_with fail
    refine (d3.out _).mono ?_
    rintro e w' ⟨rfl, nd3, rfl⟩
    go_wp2_with fail
    refine (d4.out _).mono ?_
    rintro e w' ⟨rfl, nd4, rfl⟩
    go_wp2_with fail
    refine (awake_any _).mono ?_
    rintro e w' ⟨rfl, na, rfl⟩
    go_wp2_with fail
    go_ret
    exact ⟨rfl, grown_drewN (Grown.refl _) _⟩
  have hlo : 2 ≤ IntKind.u64.wrap (a0 * 2) / 9007199254740992 := by rw [IntKind.wrap_u64]; unfold rg at c; omega
  have c' : 9007199254740992 ≤ rg a0.toNat := by omega
  obtain ⟨h, hh⟩ : ∃ h : Int, ((half a0.toNat : Nat) : Int) = h := ⟨_, rfl⟩
  have hhn : h.toNat = half a0.toNat := by omega
  have hhl := half_lt l0
  have nh := rg_half n0
  obtain ⟨t5, ht5⟩ : ∃ t, doT 4 a0.toNat (4611686018427387904 : Int).toNat = t := ⟨_, rfl⟩
  obtain ⟨t6, ht6⟩ : ∃ t, doT 1 h.toNat h.toNat = t := ⟨_, rfl⟩
  have d5 := do_at 4 a0 4611686018427387904 p0 q0 (by omega) (by omega) (x := h) (z := 0) (by rw [e2, doR_of n0 m2 (Or.inr (Or.inr (Or.inr ⟨rfl, div_two l0 n0 c'⟩))), hh]) ht5 (doE_ok (by omega) (by omega))
  have d6 := do_at 1 h h (by omega) (by omega) (by omega) (by omega) (x := a0) (z := 0) (by rw [hhn, doR_of nh nh (Or.inl ⟨rfl, add_half l0 n0 c'⟩), i0]) ht6 (doE_ok (by omega) (by omega))
  clear c c' n0 m1 m2 mz mn e1 e2 e3 c2 l0 i0 hv0 hh hhn hhl nh ht5 ht6
  go_enter Try.func4, Try.ntmps4
  go_wp2_with fail
  refine (k0.out _).mono ?_
  rintro e w' ⟨rfl, rfl⟩
  go_wp2_with fail
  refine (g1.out _).mono ?_
  rintro e w' ⟨rfl, rfl⟩
  go_wp2_with fail
  refine (g2.out _).mono ?_
  rintro e w' ⟨rfl, rfl⟩
  go_wp2_with fail
  refine (d1.out _).mono ?_
  rintro e w' ⟨rfl, nd1, rfl⟩
  go_wp2_with fail
  refine (d2.out _).mono ?_
  rintro e w' ⟨rfl, nd2, rfl⟩
  go_wp2_with fail
  refine (d3.out _).mono ?_
  rintro e w' ⟨rfl, nd3, rfl⟩
  go_wp2_with fail
  refine (d4.out _).mono ?_
  rintro e w' ⟨rfl, nd4, rfl⟩
  go_wp2_with fail
  refine (d5.out _).mono ?_
  rintro e w' ⟨rfl, nd5, rfl⟩
  go_wp2_with fail
  refine (d6.out _).mono ?_
  rintro e w' ⟨rfl, nd6, rfl⟩
  go_wp2_with fail
  refine (awake_any _).mono ?_
  rintro e w' ⟨rfl, na, rfl⟩
  go_wp2_with fail
  go_ret
  exact ⟨rfl, grown_drewN (Grown.refl _) _⟩

set_option maxRecDepth 100000 in
theorem lifted (os : Os) (started : os.Started) (H : Type) (enc : TypeId × Value → H) :
    ReturnsInHanded {} Try.checked os 4 .any (Rows.fltOnesSpec.pre6 enc Try.prog Try.f4 Rows.fltOnesRow.domain false) (Rows.fltOnesSpec.post enc Try.prog Try.f4 false true false false) := by
  refine returnsInHanded_of_change (C := Try.checked) own started (by kernel_rfl) Try.func4
    (ChangeSpec.witness6 (enc := enc) (C := Try.checked) false ⟨#[], #[.int .u64 0], []⟩ 8 (by kernel_rfl) (by kernel_rfl) (by kernel_rfl) (by kernel_rfl)) ?_
  intro W base args ds gs before hval0 hW hcnd _
  have hval : ∀ (j : Nat) t v, Try.f4.params[j]? = some t → args[j]? = some v → Value.okWide Try.prog W .any base t v := hval0
  have hW' := hW
  obtain ⟨p, q, hA0, hV, rfl, hfz, hnd⟩ := hW
  have hA : DataW.TrodAll enc Try.prog W 0 (fun _ => true) true Try.f4.params.toList args.toList ds p := hA0
  rw [Try.params4] at hA hval
  obtain ⟨v0, vs0, d0, ds0, p0, q0, hargs, rfl, rfl, h0, r0⟩ := trodAll_cons hA
  obtain ⟨rfl, rfl, rfl⟩ := trodAll_nil r0
  obtain rfl : args = #[v0] := by cases args; simp_all
  obtain ⟨rfl, rfl⟩ := trodVars_none hV
  obtain ⟨a0, rfl, rfl, rfl, w0⟩ := open_int Try.underlying22 (hval 0 22 v0 rfl rfl) h0
  clear hA0 hval0
  simp only [List.append_nil] at hW'
  refine (walk a0 w0 W).mono fun e W' ⟨he, hg⟩ => ?_
  subst he
  exact ⟨_, rfl, post_of_same (pa := []) (pv := []) hW' (fun _ _ _ => (trodAll_cons_mk (shut_bool Try.underlying4 _) trodAll_mk0)) (fun sp _ => (trodAll_cons_mk (shut_int Try.underlying22 w0) trodAll_mk0)) (fun _ _ => rfl) rfl
    (hg.frame _) hg.2.1 (ok_one (by kernel_rfl) rfl (okWide_bool_mk Try.underlying4 _))⟩

theorem over : Rows.fltOnesRow.holds Try.pinned (OpenSpec.ofChange Rows.fltOnesSpec) :=
  OpenClaim.holds_of_wide 4 Try.f4 rfl rfl rfl rfl rfl rfl rfl ⟨rfl, rfl, rfl, rfl, rfl⟩ rfl rfl rfl rfl rfl (by kernel_rfl) Try.func4 (by kernel_rfl)
    (of_decide_eq_true (by kernel_rfl)) (by unfold Func.isWrapper; first | (rw [if_pos (by decide +kernel)]; kernel_rfl) | (rw [if_neg (by decide +kernel)]; exact ⟨rfl, rfl⟩))
    (fun os started H enc _ => lifted os started H enc)

theorem proved : Rows.FltOnesSaid :=
  over
#print axioms proved
end Go.Proofs.Ytpfmkhnogobioac.fltOnes
