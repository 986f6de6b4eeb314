/- For any number's bits and any whole number, flt.ToInt and flt.FromInt answer what the document's answer reckons from the fields of the bits and by rounding the size; no condition. -/
import Derived.Test.YtpfmkhnogobioabRows
import Derived.WalkKit
import Derived.ProofKit
import Derived.OpenShut
import Derived.Test.YtpfmkhnogobioabAt
import Derived.Test.YtpfmkhnogobioabRfrom
namespace Go.Proofs.Ytpfmkhnogobioab.fltInts
open Go.ChangeShapes Go.WideShapes Go.ChangeAt Go.RowKit
open FltM
set_option linter.unusedSimpArgs false
set_option linter.unusedVariables false

theorem own : ownKnob Try.prog.godebug = none := by kernel_rfl

theorem rtoint_at (x : Int) (h0 : 0 ≤ x) (h1 : x < 18446744073709551616) {v z : Int} (hv : toI x.toNat = v) (hz : toE x.toNat = z) :
    Hid (∀ w : World, Calls Try.prog 17 #[.int .u64 x] w fun e w' => e = .returned (.tuple #[.int .i64 v, .int .i64 z]) ∧ w' = w) := by
  intro w; rw [← hv, ← hz]; exact rtoint_any x h0 h1 w
theorem rfrom_at (n : Int) (h0 : -9223372036854775808 ≤ n) (h1 : n < 9223372036854775808) {v : Int} (hv : ((fromI n : Nat) : Int) = v) :
    Hid (∀ w : World, Calls Try.prog 19 #[.int .i64 n] w fun e w' => e = .returned (.int .u64 v) ∧ w' = w) := by
  intro w; rw [← hv]; exact rfrom_any n h0 h1 w

set_option maxHeartbeats 1000000 in
theorem walk (a0 : Int) (a1 : Int) (w0 : (Lit.int .u64 a0).wf = true) (w1 : (Lit.int .i64 a1).wf = true) (w : World) :
    Calls Try.prog 5 #[.int .u64 a0, .int .i64 a1] w fun e w' => e = .returned (.bool true) ∧ Grown w w' := by
  have u0 : 0 ≤ a0 ∧ a0 < 18446744073709551616 := by simp [Lit.wf, IntKind.min, IntKind.max, IntKind.signed, IntKind.bits] at w0; omega
  have u1 : -9223372036854775808 ≤ a1 ∧ a1 < 9223372036854775808 := by simp [Lit.wf, IntKind.min, IntKind.max, IntKind.signed, IntKind.bits] at w1; omega
  obtain ⟨p0, q0⟩ := u0
  obtain ⟨p1, q1⟩ := u1
  clear w0 w1
  obtain ⟨v, hv⟩ : ∃ v : Int, toI a0.toNat = v := ⟨_, rfl⟩
  obtain ⟨z, hz⟩ : ∃ z : Int, toE a0.toNat = z := ⟨_, rfl⟩
  obtain ⟨y, hy⟩ : ∃ y : Int, ((fromI a1 : Nat) : Int) = y := ⟨_, rfl⟩
  have d1 := toint_at a0 hv hz
  have d2 := rtoint_at a0 p0 q0 hv hz
  have g1 := from_at a1 hy
  have g2 := rfrom_at a1 p1 q1 hy
  clear hv hz hy
  go_enter Try.func5, Try.ntmps5
  go_wp2_with fail
  refine (d1.out _).mono ?_
  rintro e w' ⟨rfl, n1, rfl⟩
  go_wp2_with fail
  refine (d2.out _).mono ?_
  rintro e w' ⟨rfl, rfl⟩
  go_wp2_with fail
  refine (awake_any _).mono ?_
  rintro e w' ⟨rfl, n2, rfl⟩
  go_wp2_with fail
  refine (g1.out _).mono ?_
  rintro e w' ⟨rfl, rfl⟩
  go_wp2_with fail
  refine (g2.out _).mono ?_
  rintro e w' ⟨rfl, rfl⟩
  go_wp2_with fail
  go_ret
  exact ⟨rfl, grown_drewN (Grown.refl _) _⟩

set_option maxRecDepth 100000 in
theorem lifted (os : Os) (started : os.Started) (H : Type) (enc : TypeId × Value → H) :
    ReturnsInHanded {} Try.checked os 5 .any (Rows.fltIntsSpec.pre6 enc Try.prog Try.f5 Rows.fltIntsRow.domain false) (Rows.fltIntsSpec.post enc Try.prog Try.f5 false true false false) := by
  refine returnsInHanded_of_change (C := Try.checked) own started (by kernel_rfl) Try.func5
    (ChangeSpec.witness6 (enc := enc) (C := Try.checked) false ⟨#[], #[.int .u64 0, .int .i64 0], []⟩ 8 (by kernel_rfl) (by kernel_rfl) (by kernel_rfl) (by kernel_rfl)) ?_
  intro W base args ds gs before hval0 hW hcnd _
  have hval : ∀ (j : Nat) t v, Try.f5.params[j]? = some t → args[j]? = some v → Value.okWide Try.prog W .any base t v := hval0
  have hW' := hW
  obtain ⟨p, q, hA0, hV, rfl, hfz, hnd⟩ := hW
  have hA : DataW.TrodAll enc Try.prog W 0 (fun _ => true) true Try.f5.params.toList args.toList ds p := hA0
  rw [Try.params5] at hA hval
  obtain ⟨v0, vs0, d0, ds0, p0, q0, hargs, rfl, rfl, h0, r0⟩ := trodAll_cons hA
  obtain ⟨v1, vs1, d1, ds1, p1, q1, rfl, rfl, rfl, h1, r1⟩ := trodAll_cons r0
  obtain ⟨rfl, rfl, rfl⟩ := trodAll_nil r1
  obtain rfl : args = #[v0, v1] := by cases args; simp_all
  obtain ⟨rfl, rfl⟩ := trodVars_none hV
  obtain ⟨a0, rfl, rfl, rfl, w0⟩ := open_int Try.underlying22 (hval 0 22 v0 rfl rfl) h0
  obtain ⟨a1, rfl, rfl, rfl, w1⟩ := open_int Try.underlying2 (hval 1 2 v1 rfl rfl) h1
  clear hA0 hval0
  simp only [List.append_nil] at hW'
  refine (walk a0 a1 w0 w1 W).mono fun e W' ⟨he, hg⟩ => ?_
  subst he
  exact ⟨_, rfl, post_of_same (pa := []) (pv := []) hW' (fun _ _ _ => (trodAll_cons_mk (shut_bool Try.underlying4 _) trodAll_mk0)) (fun sp _ => (trodAll_cons_mk (shut_int Try.underlying22 w0) (trodAll_cons_mk (shut_int Try.underlying2 w1) trodAll_mk0))) (fun _ _ => rfl) rfl
    (hg.frame _) hg.2.1 (ok_one (by kernel_rfl) rfl (okWide_bool_mk Try.underlying4 _))⟩

theorem over : Rows.fltIntsRow.holds Try.pinned (OpenSpec.ofChange Rows.fltIntsSpec) :=
  OpenClaim.holds_of_wide 5 Try.f5 rfl rfl rfl rfl rfl rfl rfl ⟨rfl, rfl, rfl, rfl, rfl⟩ rfl rfl rfl rfl rfl (by kernel_rfl) Try.func5 (by kernel_rfl)
    (of_decide_eq_true (by kernel_rfl)) (by unfold Func.isWrapper; first | (rw [if_pos (by decide +kernel)]; kernel_rfl) | (rw [if_neg (by decide +kernel)]; exact ⟨rfl, rfl⟩))
    (fun os started H enc _ => lifted os started H enc)

theorem proved : Rows.FltIntsSaid :=
  over
#print axioms proved
end Go.Proofs.Ytpfmkhnogobioab.fltInts
