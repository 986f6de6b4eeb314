/- For any bytes, any number of frames and any kernel's range: what Frames answers of (at most 1400 of) the bytes is what the document's words give: the same error's number, the same ranges; no condition. -/
import Derived.Test.YtkgjeemecpigpaaRows
import Derived.ProofKit
import Derived.OpenShut
import Derived.Carry
import Derived.Test.YtkgjeemecpigpaaOQ
import Derived.Sort.BigQuietIn
namespace Go.Proofs.Ytkgjeemecpigpaa.bootmapFrames
open Go.ChangeShapes Go.WideShapes Go.ChangeAt Go.RowKit Go.Maps
set_option linter.unusedSimpArgs false
set_option linter.unusedVariables false
open Go.Proofs.Ytkgjeemecpigpaa.Bm
theorem some_bool (p : Prop) : ∃ z : Bool, z = true ↔ p := ⟨@decide p (Classical.propDecidable p), by simp⟩

set_option maxRecDepth 8000 in
set_option maxHeartbeats 1000000 in
theorem walk (p0 : Option Addr) (n0 c0 : Nat) (B0 : Nat → Int) (m0 : n0 ≤ maxLen) (l0 : n0 ≤ c0) (a1 : Int) (w1 : (Lit.int .i64 a1).wf = true) (a2a a2b : Int) (w2a : (Lit.int .i64 a2a).wf = true) (w2b : (Lit.int .i64 a2b).wf = true) (w : World) (H0 : IsByts w p0 n0 B0) :
    Calls Try.prog 5 #[.slice p0 n0 c0, .int .i64 a1, .agg #[.int .i64 a2a, .int .i64 a2b]] w fun e w' => e = .returned (.bool true) ∧ Below w.heap.size w w' := by
  obtain ⟨S0, Y0⟩ := byts_src H0
  have C0 : Hid (_) := cut_any p0 n0 c0 ((List.range n0).map B0) (by simp) l0 (w.alloc (.cells #[.int .i64 a2a, .int .i64 a2b] 44)) (S0.below (Go.Joins.below_alloc1 _ _))
  have HY : Hid (Byt (((List.range n0).map B0).take 1400)) := fun x hx => Y0 x (List.mem_of_mem_take hx)
  generalize (List.range n0).map B0 = L0 at C0 HY
  have AC : Hid (∀ W : World, _) := fun W => awake_any W
  have KB : Hid (Blk (w.alloc (.cells #[.int .i64 a2a, .int .i64 a2b] 44)) w.heap.size [.int .i64 a2a, .int .i64 a2b] 44 ∧ Below w.heap.size w (w.alloc (.cells #[.int .i64 a2a, .int .i64 a2b] 44))) := ⟨Blk.made w [.int .i64 a2a, .int .i64 a2b] 44, Go.Joins.below_alloc1 _ _⟩
  clear H0 S0 Y0
  go_enter Try.func5, Try.ntmps5
  go_wp2_with fail
  refine Calls.mono C0.out ?_
  rintro e w1 ⟨g0, k0, rfl, O0, hb⟩
  have BX : Hid (Blk w1 w.heap.size [.int .i64 a2a, .int .i64 a2b] 44) := KB.out.1.below hb
  have BW : Hid (Below w.heap.size w w1) := below_then KB.out.2 hb
  obtain ⟨L, hLL⟩ : ∃ L, L0.take 1400 = L := ⟨_, rfl⟩
  rw [hLL] at O0 HY ⊢
  obtain ⟨n, hn⟩ : ∃ n, L.length = n := ⟨_, rfl⟩
  have HN : Hid (n = L.length) := hn.symm
  rw [hn] at O0 ⊢
  have OB : Hid (OL 5 1 eB w1 (w.alloc (.cells #[.int .i64 a2a, .int .i64 a2b] 44)).heap.size (.slice (some ⟨g0, 0, none⟩) n k0) L) := O0
  have FC : Hid (∀ (k1 k2 : Int) (W : World), Below w1.heap.size w1 W → _) := fun k1 k2 W hb => frames_own g0 n k0 _ L HN.out HY.out a1 k1 k2 W (row_below OB.out hb)
  have GC : Hid (∀ (k1 k2 : Int) (W : World), Below w1.heap.size w1 W → Calls Try.prog 19 #[.slice (some ⟨g0, 0, none⟩) n k0, .int .i64 a1, .agg #[.int .i64 k1, .int .i64 k2]] W fun e w' => ∃ v' z M, e = .returned (.tuple #[v', .int .i64 z]) ∧ RL w' W.heap.size v' M ∧ FZ (BL L) n a1 (k1, k2) z M ∧ M.length ≤ 5000 ∧ Below W.heap.size W w') := fun k1 k2 W hb => by
    obtain ⟨h1, h2, h3, _⟩ := bl_cells HN.out (row_below OB.out hb)
    exact rframes_any g0 0 n k0 (BL L) (bl_bd HY.out) h2 a1 k1 k2 W h1 h3
  clear O0 hb C0 KB hLL hn
  have z0 : w1.cell? ⟨w.heap.size, 0, none⟩ = some (.int .i64 a2a) := BX.out.cell 0
  have z1 : w1.cell? ⟨w.heap.size, 1, none⟩ = some (.int .i64 a2b) := BX.out.cell 1
  go_wp2_with fail
  refine Calls.mono (FC.out a2a a2b w1 (Below.refl _ _)) ?_
  rintro e w2 ⟨v7, z, M, rfl, R7, fz, m9, hb⟩
  clear z0 z1
  have KW : Hid (Below w1.heap.size w1 w1) := Below.refl _ _
  have BXq : Hid (Blk w2 w.heap.size [.int .i64 a2a, .int .i64 a2b] 44) := BX.out.below hb
  have BWq : Hid (Below w.heap.size w w2) := below_then BW.out hb
  have KWq : Hid (Below w1.heap.size w1 w2) := below_then KW.out hb
  clear BX BW KW
  have BX := BXq
  have BW := BWq
  have KW := KWq
  clear BXq BWq KWq
  have RM : Hid (RL w2 0 v7 M) := R7.low (Nat.zero_le _)
  have HFZ : Hid (FZ (BL L) n a1 (a2a, a2b) z M ∧ M.length ≤ 5000) := ⟨fz, m9⟩
  clear R7 fz m9 hb
  have z0 : w2.cell? ⟨w.heap.size, 0, none⟩ = some (.int .i64 a2a) := BX.out.cell 0
  have z1 : w2.cell? ⟨w.heap.size, 1, none⟩ = some (.int .i64 a2b) := BX.out.cell 1
  go_wp2_with fail
  refine Calls.mono (GC.out a2a a2b w2 KW.out) ?_
  rintro e w3 ⟨v9, z2, M2, rfl, R9, fz, m9, hb⟩
  clear z0 z1
  have BXq : Hid (Blk w3 w.heap.size [.int .i64 a2a, .int .i64 a2b] 44) := BX.out.below hb
  have BWq : Hid (Below w.heap.size w w3) := below_then BW.out hb
  have KWq : Hid (Below w1.heap.size w1 w3) := below_then KW.out hb
  have RMq : Hid (RL w3 0 v7 M) := RM.out.below hb
  clear BX BW KW RM
  have BX := BXq
  have BW := BWq
  have KW := KWq
  have RM := RMq
  clear BXq BWq KWq RMq
  have RN : Hid (RL w3 0 v9 M2) := R9.low (Nat.zero_le _)
  obtain ⟨e1, e2⟩ := HFZ.out.1.one fz
  subst e1
  subst e2
  have SC : Hid (∀ W : World, RL W 0 v7 M → RL W 0 v9 M → _) := fun W h k => same_any 0 0 v7 v9 M M true (by simp) (by have := HFZ.out.2; omega) (by have := HFZ.out.2; omega) W h k
  clear R9 fz m9 hb
  have ez : (z == z) = true := by simp
  go_wp2_with fail
  refine Calls.mono (AC.out _) ?_
  rintro e w4 ⟨rfl, hb⟩
  have BXq : Hid (Blk w4 w.heap.size [.int .i64 a2a, .int .i64 a2b] 44) := BX.out.below hb
  have BWq : Hid (Below w.heap.size w w4) := below_then BW.out hb
  have KWq : Hid (Below w1.heap.size w1 w4) := below_then KW.out hb
  have RMq : Hid (RL w4 0 v7 M) := RM.out.below hb
  have RNq : Hid (RL w4 0 v9 M) := RN.out.below hb
  clear BX BW KW RM RN
  have BX := BXq
  have BW := BWq
  have KW := KWq
  have RM := RMq
  have RN := RNq
  clear BXq BWq KWq RMq RNq
  clear hb
  go_wp2_with fail
  refine Calls.mono (SC.out _ RM.out RN.out) ?_
  rintro e w5 ⟨rfl, hb⟩
  have BXq : Hid (Blk w5 w.heap.size [.int .i64 a2a, .int .i64 a2b] 44) := BX.out.below hb
  have BWq : Hid (Below w.heap.size w w5) := below_then BW.out hb
  have KWq : Hid (Below w1.heap.size w1 w5) := below_then KW.out hb
  have RMq : Hid (RL w5 0 v7 M) := RM.out.below hb
  have RNq : Hid (RL w5 0 v9 M) := RN.out.below hb
  clear BX BW KW RM RN
  have BX := BXq
  have BW := BWq
  have KW := KWq
  have RM := RMq
  have RN := RNq
  clear BXq BWq KWq RMq RNq
  clear hb
  go_wp2_with fail
  go_ret
  exact ⟨rfl, BW.out⟩

theorem own : ownKnob Try.prog.godebug = none := by kernel_rfl
theorem laidOut : laidOutB Try.prog = true := by kernel_rfl
set_option maxRecDepth 100000 in
theorem lifted (os : Os) (started : os.Started) (H : Type) (enc : TypeId × Value → H) :
    ReturnsInHanded {} Try.checked os 5 .any (Rows.bootmapFramesSpec.pre6 enc Try.prog Try.f5 Rows.bootmapFramesRow.domain false) (Rows.bootmapFramesSpec.post enc Try.prog Try.f5 false true false false) := by
  refine returnsInHanded_of_change (C := Try.checked) own started (by kernel_rfl) Try.func5
    (ChangeSpec.witness6 (enc := enc) (C := Try.checked) false ⟨#[], #[.slice none 0 0, .int .i64 0, .agg #[.int .i64 0, .int .i64 0]], []⟩ 8 (by kernel_rfl) (by kernel_rfl) (by kernel_rfl) (by kernel_rfl)) ?_
  intro W base args ds gs before hval0 hW hcnd _
  have hval : ∀ (j : Nat) t v, Try.f5.params[j]? = some t → args[j]? = some v → Value.okWide Try.prog W .any base t v := hval0
  have hW' := hW
  obtain ⟨p, q, hA0, hV, hbef, hfz, hnd⟩ := hW
  have hA : DataW.TrodAll enc Try.prog W 0 (fun _ => true) true Try.f5.params.toList args.toList ds p := hA0
  have hAk := hA
  have hlt : ∀ x ∈ p, x.block < W.heap.size := fun x hx => hW'.lt x (by rw [hbef]; exact List.mem_append_left _ hx)
  rw [Try.params5] at hA hval
  obtain ⟨v0, vs0, d0, ds0, p0, q0, hargs, rfl, hp0, h0, r0⟩ := trodAll_cons hA
  obtain ⟨v1, vs1, d1, ds1, p1, q1, rfl, rfl, hp1, h1, r1⟩ := trodAll_cons r0
  obtain ⟨v2, vs2, d2, ds2, p2, q2, rfl, rfl, hp2, h2, r2⟩ := trodAll_cons r1
  obtain ⟨rfl, rfl, hpz⟩ := trodAll_nil r2
  obtain rfl : args = #[v0, v1, v2] := by cases args; simp_all
  obtain ⟨rfl, rfl⟩ := trodVars_none hV
  obtain ⟨p0, n0, c0, B0, rfl, m0, l0, H0⟩ := open_byts (hval 0 22 v0 rfl rfl) h0
  obtain ⟨a1, rfl, _, _, w1⟩ := open_int Try.underlying3 (hval 1 3 v1 rfl rfl) h1
  obtain ⟨a2a, a2b, rfl, w2a, w2b⟩ := open_range (hval 2 44 v2 rfl rfl) h2
  clear hA0 hval0
  refine (walk p0 n0 c0 B0 m0 l0 a1 w1 a2a a2b w2a w2b W H0).mono fun e W' ⟨he, hg⟩ => ?_
  subst he
  exact ⟨_, rfl, ⟨_, _, _, [], p, [], hW', (trodAll_cons_mk (shut_bool Try.underlying4 _) trodAll_mk0), args_stay laidOut hg (by kernel_rfl) hAk hlt, rfl, hg.frame _, fun h => by cases h⟩⟩

theorem over : Rows.bootmapFramesRow.holds Try.pinned (OpenSpec.ofChange Rows.bootmapFramesSpec) :=
  OpenClaim.holds_of_wide 5 Try.f5 rfl rfl rfl rfl rfl rfl rfl ⟨rfl, rfl, rfl, rfl, rfl⟩ rfl rfl rfl rfl rfl (by kernel_rfl) Try.func5 (by kernel_rfl)
    (of_decide_eq_true (by kernel_rfl)) (by unfold Func.isWrapper; first | (rw [if_pos (by decide +kernel)]; kernel_rfl) | (rw [if_neg (by decide +kernel)]; exact ⟨rfl, rfl⟩))
    (fun os started H enc _ => lifted os started H enc)

theorem proved : Rows.BootmapFramesSaid :=
  over
#print axioms proved
end Go.Proofs.Ytkgjeemecpigpaa.bootmapFrames
