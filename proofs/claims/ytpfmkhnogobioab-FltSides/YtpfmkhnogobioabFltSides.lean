/- For any operation and any two numbers' bits, flt.Do's sums, products, lesser and greater ones are the same from either side, a number less another one is the sum with that one's sign turned, and a sign that is turned twice is itself; no condition. -/
import Derived.Test.YtpfmkhnogobioabRows
import Derived.WalkKit
import Derived.ProofKit
import Derived.OpenShut
import Derived.Test.YtpfmkhnogobioabDoAbs
namespace Go.Proofs.Ytpfmkhnogobioab.fltSides
open Go.ChangeShapes Go.WideShapes Go.ChangeAt Go.RowKit
open FltM
set_option linter.unusedSimpArgs false
set_option linter.unusedVariables false

theorem own : ownKnob Try.prog.godebug = none := by kernel_rfl


set_option maxHeartbeats 1000000 in
theorem walk (a0 : Int) (a1 : Int) (a2 : Int) (w0 : (Lit.int .i64 a0).wf = true) (w1 : (Lit.int .u64 a1).wf = true) (w2 : (Lit.int .u64 a2).wf = true) (w : World) :
    Calls Try.prog 6 #[.int .i64 a0, .int .u64 a1, .int .u64 a2] w fun e w' => e = .returned (.bool true) ∧ Grown w w' := by
  have u1 : 0 ≤ a1 ∧ a1 < 18446744073709551616 := by simp [Lit.wf, IntKind.min, IntKind.max, IntKind.signed, IntKind.bits] at w1; omega
  have u2 : 0 ≤ a2 ∧ a2 < 18446744073709551616 := by simp [Lit.wf, IntKind.min, IntKind.max, IntKind.signed, IntKind.bits] at w2; omega
  obtain ⟨p1, q1⟩ := u1
  obtain ⟨p2, q2⟩ := u2
  clear w0 w1 w2
  have l1 : a1.toNat < 18446744073709551616 := by omega
  have l2 : a2.toNat < 18446744073709551616 := by omega
  have hfl := flip_lt a2.toNat
  obtain ⟨c, hc⟩ : ∃ c : Int, ((FltM.flip a2.toNat : Nat) : Int) = c := ⟨_, rfl⟩
  have hcn : c.toNat = FltM.flip a2.toNat := by omega
  obtain ⟨x2, hx2⟩ : ∃ x : Int, ((doR 2 a1.toNat a2.toNat : Nat) : Int) = x := ⟨_, rfl⟩
  obtain ⟨t2, ht2⟩ : ∃ t : Int, doT 2 a1.toNat a2.toNat = t := ⟨_, rfl⟩
  have d7 := do_at 7 a2 0 p2 q2 (by omega) (by omega) (x := c) (t := 0) (z := 0) (by rw [doR_neg, hc]) (doT_neg _ _) (doE_ok (by omega) (by omega))
  have d2 := do_at 2 a1 a2 p1 q1 p2 q2 hx2 ht2 (doE_ok (by omega) (by omega))
  have d1 := do_at 1 a1 c p1 q1 (by omega) (by omega) (x := x2) (t := t2) (z := 0) (by rw [hcn, doR_sub _ l2, hx2]) (by rw [hcn, doT_sub _ l2, ht2]) (doE_ok (by omega) (by omega))
  have d8 := do_at 7 c 0 (by omega) (by omega) (by omega) (by omega) (x := a2) (t := 0) (z := 0) (by rw [doR_neg, hcn, flip_flip l2]; exact Int.toNat_of_nonneg p2) (doT_neg _ _) (doE_ok (by omega) (by omega))
  clear hcn hc hx2 ht2 hfl
  by_cases cc : a0 = 1 ∨ a0 = 3 ∨ a0 = 5 ∨ a0 = 6
  · obtain ⟨x, hx⟩ : ∃ x : Int, ((doR a0 a1.toNat a2.toNat : Nat) : Int) = x := ⟨_, rfl⟩
    obtain ⟨t, ht⟩ : ∃ t : Int, doT a0 a1.toNat a2.toNat = t := ⟨_, rfl⟩
    have f1 := do_at a0 a1 a2 p1 q1 p2 q2 hx ht (doE_ok (by omega) (by omega))
    have f2 := do_at a0 a2 a1 p2 q2 p1 q1 (x := x) (t := t) (z := 0) (by rw [doR_comm cc l2 l1]; exact hx) (by rw [doT_comm cc l2 l1]; exact ht) (doE_ok (by omega) (by omega))
    clear hx ht l1 l2
    rcases cc with rfl | rfl | rfl | rfl
    all_goals
      go_enter Try.func6, Try.ntmps6
      go_wp2_with fail
      refine (f1.out _).mono ?_
      rintro e w' ⟨rfl, n1, rfl⟩
      go_wp2_with fail
      refine (f2.out _).mono ?_
      rintro e w' ⟨rfl, n2, rfl⟩
      go_wp2_with fail
      refine (d7.out _).mono ?_
      rintro e w' ⟨rfl, n3, rfl⟩
      go_wp2_with fail
      refine (d2.out _).mono ?_
      rintro e w' ⟨rfl, n4, rfl⟩
      go_wp2_with fail
      refine (d1.out _).mono ?_
      rintro e w' ⟨rfl, n5, rfl⟩
      go_wp2_with fail
      refine (d8.out _).mono ?_
      rintro e w' ⟨rfl, n6, rfl⟩
      go_wp2_with (go_at_call 9; refine (awake_any _).mono ?_; rintro e w' ⟨rfl, n, rfl⟩)
      go_ret
      exact ⟨rfl, grown_drewN (Grown.refl _) _⟩
  · have b1 : (a0 == 1) = false := beq_eq_false_iff_ne.2 (by omega)
    have b3 : (a0 == 3) = false := beq_eq_false_iff_ne.2 (by omega)
    have b5 : (a0 == 5) = false := beq_eq_false_iff_ne.2 (by omega)
    have b6 : (a0 == 6) = false := beq_eq_false_iff_ne.2 (by omega)
    clear cc l1 l2
    go_enter Try.func6, Try.ntmps6
    go_wp2_with fail
    refine (d7.out _).mono ?_
    rintro e w' ⟨rfl, n3, rfl⟩
    go_wp2_with fail
    refine (d2.out _).mono ?_
    rintro e w' ⟨rfl, n4, rfl⟩
    go_wp2_with fail
    refine (d1.out _).mono ?_
    rintro e w' ⟨rfl, n5, rfl⟩
    go_wp2_with fail
    refine (d8.out _).mono ?_
    rintro e w' ⟨rfl, n6, rfl⟩
    go_wp2_with (go_at_call 9; refine (awake_any _).mono ?_; rintro e w' ⟨rfl, n, rfl⟩)
    go_ret
    exact ⟨rfl, grown_drewN (Grown.refl _) _⟩

set_option maxRecDepth 100000 in
theorem lifted (os : Os) (started : os.Started) (H : Type) (enc : TypeId × Value → H) :
    ReturnsInHanded {} Try.checked os 6 .any (Rows.fltSidesSpec.pre6 enc Try.prog Try.f6 Rows.fltSidesRow.domain false) (Rows.fltSidesSpec.post enc Try.prog Try.f6 false true false false) := by
  refine returnsInHanded_of_change (C := Try.checked) own started (by kernel_rfl) Try.func6
    (ChangeSpec.witness6 (enc := enc) (C := Try.checked) false ⟨#[], #[.int .i64 0, .int .u64 0, .int .u64 0], []⟩ 8 (by kernel_rfl) (by kernel_rfl) (by kernel_rfl) (by kernel_rfl)) ?_
  intro W base args ds gs before hval0 hW hcnd _
  have hval : ∀ (j : Nat) t v, Try.f6.params[j]? = some t → args[j]? = some v → Value.okWide Try.prog W .any base t v := hval0
  have hW' := hW
  obtain ⟨p, q, hA0, hV, rfl, hfz, hnd⟩ := hW
  have hA : DataW.TrodAll enc Try.prog W 0 (fun _ => true) true Try.f6.params.toList args.toList ds p := hA0
  rw [Try.params6] at hA hval
  obtain ⟨v0, vs0, d0, ds0, p0, q0, hargs, rfl, rfl, h0, r0⟩ := trodAll_cons hA
  obtain ⟨v1, vs1, d1, ds1, p1, q1, rfl, rfl, rfl, h1, r1⟩ := trodAll_cons r0
  obtain ⟨v2, vs2, d2, ds2, p2, q2, rfl, rfl, rfl, h2, r2⟩ := trodAll_cons r1
  obtain ⟨rfl, rfl, rfl⟩ := trodAll_nil r2
  obtain rfl : args = #[v0, v1, v2] := by cases args; simp_all
  obtain ⟨rfl, rfl⟩ := trodVars_none hV
  obtain ⟨a0, rfl, rfl, rfl, w0⟩ := open_int Try.underlying3 (hval 0 3 v0 rfl rfl) h0
  obtain ⟨a1, rfl, rfl, rfl, w1⟩ := open_int Try.underlying22 (hval 1 22 v1 rfl rfl) h1
  obtain ⟨a2, rfl, rfl, rfl, w2⟩ := open_int Try.underlying22 (hval 2 22 v2 rfl rfl) h2
  clear hA0 hval0
  simp only [List.append_nil] at hW'
  refine (walk a0 a1 a2 w0 w1 w2 W).mono fun e W' ⟨he, hg⟩ => ?_
  subst he
  exact ⟨_, rfl, post_of_same (pa := []) (pv := []) hW' (fun _ _ _ => (trodAll_cons_mk (shut_bool Try.underlying4 _) trodAll_mk0)) (fun sp _ => (trodAll_cons_mk (shut_int Try.underlying3 w0) (trodAll_cons_mk (shut_int Try.underlying22 w1) (trodAll_cons_mk (shut_int Try.underlying22 w2) trodAll_mk0)))) (fun _ _ => rfl) rfl
    (hg.frame _) hg.2.1 (ok_one (by kernel_rfl) rfl (okWide_bool_mk Try.underlying4 _))⟩

theorem over : Rows.fltSidesRow.holds Try.pinned (OpenSpec.ofChange Rows.fltSidesSpec) :=
  OpenClaim.holds_of_wide 6 Try.f6 rfl rfl rfl rfl rfl rfl rfl ⟨rfl, rfl, rfl, rfl, rfl⟩ rfl rfl rfl rfl rfl (by kernel_rfl) Try.func6 (by kernel_rfl)
    (of_decide_eq_true (by kernel_rfl)) (by unfold Func.isWrapper; first | (rw [if_pos (by decide +kernel)]; kernel_rfl) | (rw [if_neg (by decide +kernel)]; exact ⟨rfl, rfl⟩))
    (fun os started H enc _ => lifted os started H enc)

theorem proved : Rows.FltSidesSaid :=
  over
#print axioms proved
end Go.Proofs.Ytpfmkhnogobioab.fltSides
