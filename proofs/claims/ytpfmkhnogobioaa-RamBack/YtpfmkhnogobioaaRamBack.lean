/- For any address, size, number and other address, what was stored in a memory of four frames is loaded again, whole and byte by byte, and bytes beside it are nought; a store that is refused is refused to the load, too; no condition. -/
import Derived.Test.YtpfmkhnogobioaaRows
import Derived.WalkKit
import Derived.ProofKit
import Derived.OpenShut
import Derived.Test.YtpfmkhnogobioaaBack
namespace Go.Proofs.Ytpfmkhnogobioaa.ramBack
open Go.ChangeShapes Go.WideShapes Go.ChangeAt Go.RowKit
open Go.Maps
set_option linter.unusedSimpArgs false
set_option linter.unusedVariables false

theorem own : ownKnob Try.prog.godebug = none := by kernel_rfl


set_option maxHeartbeats 1000000 in
theorem walk (a0 : Int) (a1 : Int) (a2 : Int) (a3 : Int) (w0 : (Lit.int .u64 a0).wf = true) (w1 : (Lit.int .i64 a1).wf = true) (w2 : (Lit.int .u64 a2).wf = true) (w3 : (Lit.int .u64 a3).wf = true) (w : World) :
    Calls Try.prog 5 #[.int .u64 a0, .int .i64 a1, .int .u64 a2, .int .u64 a3] w fun e w' => e = .returned (.bool true) ∧ Below w.heap.size w w' := by
  have u0 : 0 ≤ a0 ∧ a0 < 18446744073709551616 := by simp [Lit.wf, IntKind.min, IntKind.max, IntKind.signed, IntKind.bits] at w0; omega
  have u2 : 0 ≤ a2 ∧ a2 < 18446744073709551616 := by simp [Lit.wf, IntKind.min, IntKind.max, IntKind.signed, IntKind.bits] at w2; omega
  have u3 : 0 ≤ a3 ∧ a3 < 18446744073709551616 := by simp [Lit.wf, IntKind.min, IntKind.max, IntKind.signed, IntKind.bits] at w3; omega
  by_cases hz : chkG (hasF 4) a0 a1 = 0
  · have hs : a1 = 1 ∨ a1 = 2 ∨ a1 = 4 ∨ a1 = 8 := by
      unfold chkG at hz
      by_cases c : a1 = 1 ∨ a1 = 2 ∨ a1 = 4 ∨ a1 = 8
      · exact c
      · rw [if_neg c] at hz; omega
    have hf : a0 + a1 ≤ 16384 := by
      unfold chkG at hz
      rw [if_pos hs] at hz
      by_cases c : a0 + a1 ≤ 18446744073709551616 ∧ hasF 4 (a0 / 4096) = true ∧ hasF 4 ((a0 + a1 - 1) / 4096) = true
      · have := c.2.2
        unfold hasF at this
        simp at this; omega
      · rw [if_neg c] at hz; omega
    rcases hs with rfl | rfl | rfl | rfl
    · by_cases c1 : 16384 ≤ a3
      · exact back_1_far a0 a2 a3 u0.1 hf u2.1 u2.2 u3.1 u3.2 c1 w
      · by_cases c2 : a3 < a0
        · exact back_1_low a0 a2 a3 u0.1 hf u2.1 u2.2 u3.1 u3.2 c2 w
        · by_cases c3 : a0 + 1 ≤ a3
          · exact back_1_high a0 a2 a3 u0.1 hf u2.1 u2.2 u3.1 u3.2 c3 (by omega) w
          · exact back_1_in a0 a2 a3 u0.1 hf u2.1 u2.2 u3.1 u3.2 (by omega) (by omega) w
    · by_cases c1 : 16384 ≤ a3
      · exact back_2_far a0 a2 a3 u0.1 hf u2.1 u2.2 u3.1 u3.2 c1 w
      · by_cases c2 : a3 < a0
        · exact back_2_low a0 a2 a3 u0.1 hf u2.1 u2.2 u3.1 u3.2 c2 w
        · by_cases c3 : a0 + 2 ≤ a3
          · exact back_2_high a0 a2 a3 u0.1 hf u2.1 u2.2 u3.1 u3.2 c3 (by omega) w
          · exact back_2_in a0 a2 a3 u0.1 hf u2.1 u2.2 u3.1 u3.2 (by omega) (by omega) w
    · by_cases c1 : 16384 ≤ a3
      · exact back_4_far a0 a2 a3 u0.1 hf u2.1 u2.2 u3.1 u3.2 c1 w
      · by_cases c2 : a3 < a0
        · exact back_4_low a0 a2 a3 u0.1 hf u2.1 u2.2 u3.1 u3.2 c2 w
        · by_cases c3 : a0 + 4 ≤ a3
          · exact back_4_high a0 a2 a3 u0.1 hf u2.1 u2.2 u3.1 u3.2 c3 (by omega) w
          · exact back_4_in a0 a2 a3 u0.1 hf u2.1 u2.2 u3.1 u3.2 (by omega) (by omega) w
    · by_cases c1 : 16384 ≤ a3
      · exact back_8_far a0 a2 a3 u0.1 hf u2.1 u2.2 u3.1 u3.2 c1 w
      · by_cases c2 : a3 < a0
        · exact back_8_low a0 a2 a3 u0.1 hf u2.1 u2.2 u3.1 u3.2 c2 w
        · by_cases c3 : a0 + 8 ≤ a3
          · exact back_8_high a0 a2 a3 u0.1 hf u2.1 u2.2 u3.1 u3.2 c3 (by omega) w
          · exact back_8_in a0 a2 a3 u0.1 hf u2.1 u2.2 u3.1 u3.2 (by omega) (by omega) w
  · exact back_bad a0 a1 a2 a3 _ u0.1 u0.2 rfl hz w

set_option maxRecDepth 100000 in
theorem lifted (os : Os) (started : os.Started) (H : Type) (enc : TypeId × Value → H) :
    ReturnsInHanded {} Try.checked os 5 .any (Rows.ramBackSpec.pre6 enc Try.prog Try.f5 Rows.ramBackRow.domain false) (Rows.ramBackSpec.post enc Try.prog Try.f5 false true false false) := by
  refine returnsInHanded_of_change (C := Try.checked) own started (by kernel_rfl) Try.func5
    (ChangeSpec.witness6 (enc := enc) (C := Try.checked) false ⟨#[], #[.int .u64 0, .int .i64 0, .int .u64 0, .int .u64 0], []⟩ 8 (by kernel_rfl) (by kernel_rfl) (by kernel_rfl) (by kernel_rfl)) ?_
  intro W base args ds gs before hval0 hW hcnd _
  have hval : ∀ (j : Nat) t v, Try.f5.params[j]? = some t → args[j]? = some v → Value.okWide Try.prog W .any base t v := hval0
  have hW' := hW
  obtain ⟨p, q, hA0, hV, rfl, hfz, hnd⟩ := hW
  have hA : DataW.TrodAll enc Try.prog W 0 (fun _ => true) true Try.f5.params.toList args.toList ds p := hA0
  rw [Try.params5] at hA hval
  obtain ⟨v0, vs0, d0, ds0, p0, q0, hargs, rfl, rfl, h0, r0⟩ := trodAll_cons hA
  obtain ⟨v1, vs1, d1, ds1, p1, q1, rfl, rfl, rfl, h1, r1⟩ := trodAll_cons r0
  obtain ⟨v2, vs2, d2, ds2, p2, q2, rfl, rfl, rfl, h2, r2⟩ := trodAll_cons r1
  obtain ⟨v3, vs3, d3, ds3, p3, q3, rfl, rfl, rfl, h3, r3⟩ := trodAll_cons r2
  obtain ⟨rfl, rfl, rfl⟩ := trodAll_nil r3
  obtain rfl : args = #[v0, v1, v2, v3] := by cases args; simp_all
  obtain ⟨rfl, rfl⟩ := trodVars_none hV
  obtain ⟨a0, rfl, rfl, rfl, w0⟩ := open_int Try.underlying38 (hval 0 38 v0 rfl rfl) h0
  obtain ⟨a1, rfl, rfl, rfl, w1⟩ := open_int Try.underlying3 (hval 1 3 v1 rfl rfl) h1
  obtain ⟨a2, rfl, rfl, rfl, w2⟩ := open_int Try.underlying38 (hval 2 38 v2 rfl rfl) h2
  obtain ⟨a3, rfl, rfl, rfl, w3⟩ := open_int Try.underlying38 (hval 3 38 v3 rfl rfl) h3
  clear hA0 hval0
  simp only [List.append_nil] at hW'
  refine (walk a0 a1 a2 a3 w0 w1 w2 w3 W).mono fun e W' ⟨he, hg⟩ => ?_
  subst he
  exact ⟨_, rfl, ⟨_, _, _, [], [], [], hW', (trodAll_cons_mk (shut_bool Try.underlying4 _) trodAll_mk0), (trodAll_cons_mk (shut_int Try.underlying38 w0) (trodAll_cons_mk (shut_int Try.underlying3 w1) (trodAll_cons_mk (shut_int Try.underlying38 w2) (trodAll_cons_mk (shut_int Try.underlying38 w3) trodAll_mk0)))), rfl, hg.frame _, fun h => by cases h⟩⟩

theorem over : Rows.ramBackRow.holds Try.pinned (OpenSpec.ofChange Rows.ramBackSpec) :=
  OpenClaim.holds_of_wide 5 Try.f5 rfl rfl rfl rfl rfl rfl rfl ⟨rfl, rfl, rfl, rfl, rfl⟩ rfl rfl rfl rfl rfl (by kernel_rfl) Try.func5 (by kernel_rfl)
    (of_decide_eq_true (by kernel_rfl)) (by unfold Func.isWrapper; first | (rw [if_pos (by decide +kernel)]; kernel_rfl) | (rw [if_neg (by decide +kernel)]; exact ⟨rfl, rfl⟩))
    (fun os started H enc _ => lifted os started H enc)

theorem proved : Rows.RamBackSaid :=
  over
#print axioms proved
end Go.Proofs.Ytpfmkhnogobioaa.ramBack
