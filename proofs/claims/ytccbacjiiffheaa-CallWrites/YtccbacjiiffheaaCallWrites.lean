/- For any call and any words: its words are read as it, or it has none; and what words say is spelled so again; no condition. -/
import Derived.Test.YtccbacjiiffheaaRows
import Derived.ProofKit
import Derived.OpenShut
import Derived.Carry
import Derived.Test.YtccbacjiiffheaaCWa
import Derived.Test.YtccbacjiiffheaaCWb
namespace Go.Proofs.Ytccbacjiiffheaa.callWrites
open Go.ChangeShapes Go.WideShapes Go.ChangeAt Go.RowKit Go.Maps
set_option linter.unusedSimpArgs false
set_option linter.unusedVariables false

set_option maxRecDepth 8000 in
set_option maxHeartbeats 8000000 in
theorem walk (c0 : Cl) (w0 : c0.wf) (D1 : Wd) (w1 : D1.wf) (w : World)  :
    Calls Try.prog 4 #[c0.val, D1.val] w fun e w' => e = .returned (.bool true) ∧ Below w.heap.size w w' := by
  have ew : ∀ D : Wd, ∀ W : World, (binOp .eql 24 D.val D.val).run Try.prog W = .ok (.bool true) W := fun D W => by
    have := eqWd D D W
    rw [decide_eq_true rfl] at this
    exact this
  have second : (∃ d, Says D1 d) → ∃ d : Cl, (∀ W : World, Calls Try.prog 9 #[D1.val] W fun e w' => e = .returned (.tuple #[d.val, .int .i64 0]) ∧ Below W.heap.size W w') ∧ (∀ W : World, Calls Try.prog 13 #[d.val] W fun e w' => e = .returned (.tuple #[D1.val, .int .i64 0]) ∧ Below W.heap.size W w') := fun ⟨d, hd⟩ => by
    have sp := says_spell w1 hd
    refine ⟨d, fun W => read_yes D1 w1 d hd W, fun W => ?_⟩
    have := write_yes d (says_wf w1 hd) (by rw [sp]; exact hd) W
    rw [sp] at this
    exact this
  by_cases hs : Says (spellW c0) c0
  · have WC := fun W => write_yes c0 w0 hs W
    have RC := fun W => ref_yes (spellW c0) (spell_wf w0) c0 hs W
    have TDC := fun W => told_any c0 W
    have NX : ∀ W : World, (binOp .neq 35 c0.val c0.val).run Try.prog W = .ok (.bool false) W := fun W => by
      have := neX c0 c0 W
      rw [decide_eq_true rfl] at this
      exact this
    generalize spellW c0 = D at WC RC
    clear hs w0
    obtain ⟨y0, y1, y2, y3, y4, y5⟩ := D
    by_cases hd : ∃ d, Says D1 d
    · obtain ⟨d, R1, WD⟩ := second hd
      have EW := ew D1
      clear second hd ew w1
      obtain ⟨d0, d1, d2, d3, d4, d5, d6, d7, d8, d9, d10, d11, d12⟩ := d
      obtain ⟨x0, x1, x2, x3, x4, x5⟩ := D1
      obtain ⟨c0, c1, c2, c3, c4, c5, c6, c7, c8, c9, c10, c11, c12⟩ := c0
      exact wrA2 c0 c1 c2 c6 c7 c8 c9 c10 c11 c12 c3 c4 c5 x0 x1 x2 x3 x4 x5 y0 y1 y2 y3 y4 y5 d0 d1 d2 d6 d7 d8 d9 d10 d11 d12 d3 d4 d5 w WC RC TDC NX R1 WD EW
    · have R1 := fun W => read_no D1 w1 hd W
      clear second hd ew w1
      obtain ⟨x0, x1, x2, x3, x4, x5⟩ := D1
      obtain ⟨c0, c1, c2, c3, c4, c5, c6, c7, c8, c9, c10, c11, c12⟩ := c0
      exact wrA1 c0 c1 c2 c6 c7 c8 c9 c10 c11 c12 c3 c4 c5 x0 x1 x2 x3 x4 x5 y0 y1 y2 y3 y4 y5 w WC RC TDC NX R1
  · have WC := fun W => write_no c0 w0 hs W
    clear hs w0
    by_cases hd : ∃ d, Says D1 d
    · obtain ⟨d, R1, WD⟩ := second hd
      have EW := ew D1
      clear second hd ew w1
      obtain ⟨d0, d1, d2, d3, d4, d5, d6, d7, d8, d9, d10, d11, d12⟩ := d
      obtain ⟨x0, x1, x2, x3, x4, x5⟩ := D1
      obtain ⟨c0, c1, c2, c3, c4, c5, c6, c7, c8, c9, c10, c11, c12⟩ := c0
      exact wrB2 c0 c1 c2 c6 c7 c8 c9 c10 c11 c12 c3 c4 c5 x0 x1 x2 x3 x4 x5 d0 d1 d2 d6 d7 d8 d9 d10 d11 d12 d3 d4 d5 w WC R1 WD EW
    · have R1 := fun W => read_no D1 w1 hd W
      clear second hd ew w1
      obtain ⟨x0, x1, x2, x3, x4, x5⟩ := D1
      obtain ⟨c0, c1, c2, c3, c4, c5, c6, c7, c8, c9, c10, c11, c12⟩ := c0
      exact wrB1 c0 c1 c2 c6 c7 c8 c9 c10 c11 c12 c3 c4 c5 x0 x1 x2 x3 x4 x5 w WC R1

theorem own : ownKnob Try.prog.godebug = none := by kernel_rfl
theorem laidOut : laidOutB Try.prog = true := by kernel_rfl
set_option maxRecDepth 100000 in
theorem lifted (os : Os) (started : os.Started) (H : Type) (enc : TypeId × Value → H) :
    ReturnsInHanded {} Try.checked os 4 .any (Rows.callWritesSpec.pre6 enc Try.prog Try.f4 Rows.callWritesRow.domain false) (Rows.callWritesSpec.post enc Try.prog Try.f4 false true false false) := by
  refine returnsInHanded_of_change (C := Try.checked) own started (by kernel_rfl) Try.func4
    (ChangeSpec.witness6 (enc := enc) (C := Try.checked) false ⟨#[], #[.agg #[.int .i64 0, .int .i64 0, .int .i64 0, .bool false, .bool false, .bool false, .int .u64 0, .int .i64 0, .int .u64 0, .int .i64 0, .int .i64 0, .int .i64 0, .int .i64 0], .agg #[.int .u64 0, .int .u64 0, .int .u64 0, .int .u64 0, .int .u64 0, .int .u64 0]], []⟩ 8 (by kernel_rfl) (by kernel_rfl) (by kernel_rfl) (by kernel_rfl)) ?_
  intro W base args ds gs before hval0 hW hcnd _
  have hval : ∀ (j : Nat) t v, Try.f4.params[j]? = some t → args[j]? = some v → Value.okWide Try.prog W .any base t v := hval0
  have hW' := hW
  obtain ⟨p, q, hA0, hV, hbef, hfz, hnd⟩ := hW
  have hA : DataW.TrodAll enc Try.prog W 0 (fun _ => true) true Try.f4.params.toList args.toList ds p := hA0
  have hAk := hA
  have hlt : ∀ x ∈ p, x.block < W.heap.size := fun x hx => hW'.lt x (by rw [hbef]; exact List.mem_append_left _ hx)
  rw [Try.params4] at hA hval
  obtain ⟨v0, vs0, d0, ds0, p0, q0, hargs, rfl, hp0, h0, r0⟩ := trodAll_cons hA
  obtain ⟨v1, vs1, d1, ds1, p1, q1, rfl, rfl, hp1, h1, r1⟩ := trodAll_cons r0
  obtain ⟨rfl, rfl, hpz⟩ := trodAll_nil r1
  obtain rfl : args = #[v0, v1] := by cases args; simp_all
  obtain ⟨rfl, rfl⟩ := trodVars_none hV
  obtain ⟨c0, rfl, w0⟩ := open_cl (hval 0 30 v0 rfl rfl) h0
  obtain ⟨D1, rfl, w1⟩ := open_wd (hval 1 24 v1 rfl rfl) h1
  clear hA0 hval0
  refine (walk c0 w0 D1 w1 W ).mono fun e W' ⟨he, hg⟩ => ?_
  subst he
  exact ⟨_, rfl, ⟨_, _, _, [], p, [], hW', (trodAll_cons_mk (shut_bool Try.underlying4 _) trodAll_mk0), args_stay laidOut hg (by kernel_rfl) hAk hlt, rfl, hg.frame _, fun h => by cases h⟩⟩

theorem over : Rows.callWritesRow.holds Try.pinned (OpenSpec.ofChange Rows.callWritesSpec) :=
  OpenClaim.holds_of_wide 4 Try.f4 rfl rfl rfl rfl rfl rfl rfl ⟨rfl, rfl, rfl, rfl, rfl⟩ rfl rfl rfl rfl rfl (by kernel_rfl) Try.func4 (by kernel_rfl)
    (of_decide_eq_true (by kernel_rfl)) (by unfold Func.isWrapper; first | (rw [if_pos (by decide +kernel)]; kernel_rfl) | (rw [if_neg (by decide +kernel)]; exact ⟨rfl, rfl⟩))
    (fun os started H enc _ => lifted os started H enc)

theorem proved : Rows.CallWritesSaid :=
  over
#print axioms proved
end Go.Proofs.Ytccbacjiiffheaa.callWrites
