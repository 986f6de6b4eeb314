/- For any two lists of ranges: merged (at most 30) they are what the document's words give, piece by piece from end to end, and so is what is left of the first without the second; no condition. -/
import Derived.Test.YtkgjeemecpigpaaRows
import Derived.ProofKit
import Derived.OpenShut
import Derived.Carry
import Derived.Test.YtkgjeemecpigpaaOM
import Derived.Sort.BigQuietIn
namespace Go.Proofs.Ytkgjeemecpigpaa.bootmapRanges
open Go.ChangeShapes Go.WideShapes Go.ChangeAt Go.RowKit Go.Maps
set_option linter.unusedSimpArgs false
set_option linter.unusedVariables false
open Go.Proofs.Ytkgjeemecpigpaa.Bm
theorem some_bool (p : Prop) : ∃ z : Bool, z = true ↔ p := ⟨@decide p (Classical.propDecidable p), by simp⟩

set_option maxRecDepth 8000 in
set_option maxHeartbeats 1000000 in
theorem walk (p0 : Option Addr) (n0 c0 : Nat) (F0 : Nat → Int × Int) (m0 : n0 ≤ maxLen) (l0 : n0 ≤ c0) (p1 : Option Addr) (n1 c1 : Nat) (F1 : Nat → Int × Int) (m1 : n1 ≤ maxLen) (l1 : n1 ≤ c1) (w : World) (H0 : IsRgs w p0 n0 F0) (H1 : IsRgs w p1 n1 F1) :
    Calls Try.prog 4 #[.slice p0 n0 c0, .slice p1 n1 c1] w fun e w' => e = .returned (.bool true) ∧ Below w.heap.size w w' := by
  have C0 : Hid (_) := few_any p0 n0 c0 ((List.range n0).map F0) (by simp) l0 w (rgs_src H0)
  have C1 : Hid (∀ W : World, Below w.heap.size w W → _) := fun W hb => few_any p1 n1 c1 ((List.range n1).map F1) (by simp) l1 W ((rgs_src H1).below hb)
  generalize (List.range n0).map F0 = L0 at C0
  generalize (List.range n1).map F1 = L1 at C1
  have AC : Hid (∀ W : World, _) := fun W => awake_any W
  clear H0 H1
  go_enter Try.func4, Try.ntmps4
  go_wp2_with fail
  refine Calls.mono C0.out ?_
  rintro e w1 ⟨g0, k0, rfl, O0, hb⟩
  have RA : Hid (RL w1 0 (.slice (some ⟨g0, 0, none⟩) (L0.take 30).length k0) (L0.take 30)) := (ol_ll eR_len O0).low (Nat.zero_le _)
  have BW : Hid (Below w.heap.size w w1) := hb
  have HL : Hid ((L0.take 30).length ≤ 30) := by show _ ≤ _; rw [List.length_take]; omega
  clear O0 hb C0
  generalize Value.slice (some ⟨g0, 0, none⟩) (L0.take 30).length k0 = v0 at RA ⊢
  generalize L0.take 30 = L at RA HL
  go_wp2_with fail
  refine Calls.mono (C1.out w1 BW.out) ?_
  rintro e w2 ⟨g1, k1, rfl, O1, hb⟩
  have RAq : Hid (RL w2 0 v0 L) := RA.out.below hb
  have BWq : Hid (Below w.heap.size w w2) := below_then BW.out hb
  clear RA BW
  have RA := RAq
  have BW := BWq
  clear RAq BWq
  have RB : Hid (RL w2 0 (.slice (some ⟨g1, 0, none⟩) (L1.take 30).length k1) (L1.take 30)) := (ol_ll eR_len O1).low (Nat.zero_le _)
  have HA : Hid ((L1.take 30).length ≤ 30) := by show _ ≤ _; rw [List.length_take]; omega
  clear O1 hb C1
  generalize Value.slice (some ⟨g1, 0, none⟩) (L1.take 30).length k1 = v1 at RB ⊢
  generalize L1.take 30 = A at RB HA
  have HLA : L.length * (A.length + 1) ≤ 30 * 31 := Nat.mul_le_mul HL.out (by have := HA.out; omega)
  have LC : Hid (∀ W : World, RL W 0 v0 L → RL W 0 v1 A → _) := fun W h k => less_call 0 0 v0 v1 L A (by have := HL.out; omega) (by have := HA.out; omega) (by omega) W h k
  have MC : Hid (∀ W : World, RL W 0 v0 L → _) := fun W h => merge_any 0 v0 L (by have := HL.out; omega) W h
  have RC0 : Hid (∀ W : World, RL W 0 v0 L → _) := fun W h => rless_any 0 0 v0 (.slice none 0 0) L [] (by have := HL.out; omega) (by simp) W h (ll_nil _ _ _ _)
  have RC1 : Hid (∀ W : World, RL W 0 v0 L → RL W 0 v1 A → _) := fun W h k => rless_any 0 0 v0 v1 L A (by have := HL.out; omega) (by have := HA.out; omega) W h k
  have SC : Hid (∀ (v u : Value) (M N : List (Int × Int)) (W : World), M = N → N.length ≤ 400 → RL W 0 v M → RL W 0 u N → _) := fun v u M N W e l h k => same_any 0 0 v u M N true (by simp [e]) (by rw [e]; omega) (by omega) W h k
  clear HLA
  go_wp2_with fail
  refine Calls.mono (AC.out _) ?_
  rintro e w3 ⟨rfl, hb⟩
  have RAq : Hid (RL w3 0 v0 L) := RA.out.below hb
  have BWq : Hid (Below w.heap.size w w3) := below_then BW.out hb
  have RBq : Hid (RL w3 0 v1 A) := RB.out.below hb
  clear RA BW RB
  have RA := RAq
  have BW := BWq
  have RB := RBq
  clear RAq BWq RBq
  clear hb AC
  go_wp2_with fail
  refine Calls.mono (MC.out _ RA.out) ?_
  rintro e w4 ⟨v4, M4, rfl, O4, K4, S4, L4, hb⟩
  have RAq : Hid (RL w4 0 v0 L) := RA.out.below hb
  have BWq : Hid (Below w.heap.size w w4) := below_then BW.out hb
  have RBq : Hid (RL w4 0 v1 A) := RB.out.below hb
  clear RA BW RB
  have RA := RAq
  have BW := BWq
  have RB := RBq
  clear RAq BWq RBq
  have R4 : Hid (RL w4 0 v4 M4) := (ol_ll eR_len O4).low (Nat.zero_le _)
  clear hb O4 MC
  go_wp2_with fail
  refine Calls.mono (RC0.out _ RA.out) ?_
  rintro e w5 ⟨v5, M5, rfl, O5, K5, S5, L5, hb⟩
  have RAq : Hid (RL w5 0 v0 L) := RA.out.below hb
  have BWq : Hid (Below w.heap.size w w5) := below_then BW.out hb
  have RBq : Hid (RL w5 0 v1 A) := RB.out.below hb
  have R4q : Hid (RL w5 0 v4 M4) := R4.out.below hb
  clear RA BW RB R4
  have RA := RAq
  have BW := BWq
  have RB := RBq
  have R4 := R4q
  clear RAq BWq RBq R4q
  have R5 : Hid (RL w5 0 v5 M5) := (ol_ll eR_len O5).low (Nat.zero_le _)
  have E45 : M4 = M5 := can_eq _ _ K4 K5 (fun n => by rw [S4 n, S5 n]; exact ⟨fun h => ⟨h, has_nil _⟩, fun h => h.1⟩)
  have SC1 : Hid _ := SC.out v4 v5 M4 M5 w5 E45 L5 R4.out R5.out
  clear hb O5 RC0 E45 K4 K5 S4 S5 L4 L5
  go_wp2_with fail
  refine Calls.mono SC1.out ?_
  rintro e w6 ⟨rfl, hb⟩
  have RAq : Hid (RL w6 0 v0 L) := RA.out.below hb
  have BWq : Hid (Below w.heap.size w w6) := below_then BW.out hb
  have RBq : Hid (RL w6 0 v1 A) := RB.out.below hb
  have R4q : Hid (RL w6 0 v4 M4) := R4.out.below hb
  have R5q : Hid (RL w6 0 v5 M5) := R5.out.below hb
  clear RA BW RB R4 R5
  have RA := RAq
  have BW := BWq
  have RB := RBq
  have R4 := R4q
  have R5 := R5q
  clear RAq BWq RBq R4q R5q
  clear hb SC1
  go_wp2_with fail
  refine Calls.mono (LC.out _ RA.out RB.out) ?_
  rintro e w7 ⟨v7, M7, rfl, O7, K7, S7, L7, hb⟩
  have RAq : Hid (RL w7 0 v0 L) := RA.out.below hb
  have BWq : Hid (Below w.heap.size w w7) := below_then BW.out hb
  have RBq : Hid (RL w7 0 v1 A) := RB.out.below hb
  have R4q : Hid (RL w7 0 v4 M4) := R4.out.below hb
  have R5q : Hid (RL w7 0 v5 M5) := R5.out.below hb
  clear RA BW RB R4 R5
  have RA := RAq
  have BW := BWq
  have RB := RBq
  have R4 := R4q
  have R5 := R5q
  clear RAq BWq RBq R4q R5q
  have R7 : Hid (RL w7 0 v7 M7) := (ol_ll eR_len O7).low (Nat.zero_le _)
  clear hb O7 LC
  go_wp2_with fail
  refine Calls.mono (RC1.out _ RA.out RB.out) ?_
  rintro e w8 ⟨v8, M8, rfl, O8, K8, S8, L8, hb⟩
  have RAq : Hid (RL w8 0 v0 L) := RA.out.below hb
  have BWq : Hid (Below w.heap.size w w8) := below_then BW.out hb
  have RBq : Hid (RL w8 0 v1 A) := RB.out.below hb
  have R4q : Hid (RL w8 0 v4 M4) := R4.out.below hb
  have R5q : Hid (RL w8 0 v5 M5) := R5.out.below hb
  have R7q : Hid (RL w8 0 v7 M7) := R7.out.below hb
  clear RA BW RB R4 R5 R7
  have RA := RAq
  have BW := BWq
  have RB := RBq
  have R4 := R4q
  have R5 := R5q
  have R7 := R7q
  clear RAq BWq RBq R4q R5q R7q
  have R8 : Hid (RL w8 0 v8 M8) := (ol_ll eR_len O8).low (Nat.zero_le _)
  have E78 : M7 = M8 := can_eq _ _ K7 K8 (fun n => by rw [S7 n, S8 n])
  have SC1 : Hid _ := SC.out v7 v8 M7 M8 w8 E78 L8 R7.out R8.out
  clear hb O8 RC1 E78 K7 K8 S7 S8 L7 L8
  go_wp2_with fail
  refine Calls.mono SC1.out ?_
  rintro e w9 ⟨rfl, hb⟩
  have RAq : Hid (RL w9 0 v0 L) := RA.out.below hb
  have BWq : Hid (Below w.heap.size w w9) := below_then BW.out hb
  have RBq : Hid (RL w9 0 v1 A) := RB.out.below hb
  have R4q : Hid (RL w9 0 v4 M4) := R4.out.below hb
  have R5q : Hid (RL w9 0 v5 M5) := R5.out.below hb
  have R7q : Hid (RL w9 0 v7 M7) := R7.out.below hb
  have R8q : Hid (RL w9 0 v8 M8) := R8.out.below hb
  clear RA BW RB R4 R5 R7 R8
  have RA := RAq
  have BW := BWq
  have RB := RBq
  have R4 := R4q
  have R5 := R5q
  have R7 := R7q
  have R8 := R8q
  clear RAq BWq RBq R4q R5q R7q R8q
  clear hb SC1
  go_wp2_with fail
  go_ret
  exact ⟨rfl, BW.out⟩

theorem own : ownKnob Try.prog.godebug = none := by kernel_rfl
theorem laidOut : laidOutB Try.prog = true := by kernel_rfl
set_option maxRecDepth 100000 in
theorem lifted (os : Os) (started : os.Started) (H : Type) (enc : TypeId × Value → H) :
    ReturnsInHanded {} Try.checked os 4 .any (Rows.bootmapRangesSpec.pre6 enc Try.prog Try.f4 Rows.bootmapRangesRow.domain false) (Rows.bootmapRangesSpec.post enc Try.prog Try.f4 false true false false) := by
  refine returnsInHanded_of_change (C := Try.checked) own started (by kernel_rfl) Try.func4
    (ChangeSpec.witness6 (enc := enc) (C := Try.checked) false ⟨#[], #[.slice none 0 0, .slice none 0 0], []⟩ 8 (by kernel_rfl) (by kernel_rfl) (by kernel_rfl) (by kernel_rfl)) ?_
  intro W base args ds gs before hval0 hW hcnd _
  have hval : ∀ (j : Nat) t v, Try.f4.params[j]? = some t → args[j]? = some v → Value.okWide Try.prog W .any base t v := hval0
  have hW' := hW
  obtain ⟨p, q, hA0, hV, hbef, hfz, hnd⟩ := hW
  have hA : DataW.TrodAll enc Try.prog W 0 (fun _ => true) true Try.f4.params.toList args.toList ds p := hA0
  have hAk := hA
  have hlt : ∀ x ∈ p, x.block < W.heap.size := fun x hx => hW'.lt x (by rw [hbef]; exact List.mem_append_left _ hx)
  rw [Try.params4] at hA hval
  obtain ⟨v0, vs0, d0, ds0, p0, q0, hargs, rfl, hp0, h0, r0⟩ := trodAll_cons hA
  obtain ⟨v1, vs1, d1, ds1, p1, q1, rfl, rfl, hp1, h1, r1⟩ := trodAll_cons r0
  obtain ⟨rfl, rfl, hpz⟩ := trodAll_nil r1
  obtain rfl : args = #[v0, v1] := by cases args; simp_all
  obtain ⟨rfl, rfl⟩ := trodVars_none hV
  obtain ⟨p0, n0, c0, F0, rfl, m0, l0, H0⟩ := open_rgs (hval 0 38 v0 rfl rfl) h0
  obtain ⟨p1, n1, c1, F1, rfl, m1, l1, H1⟩ := open_rgs (hval 1 38 v1 rfl rfl) h1
  clear hA0 hval0
  refine (walk p0 n0 c0 F0 m0 l0 p1 n1 c1 F1 m1 l1 W H0 H1).mono fun e W' ⟨he, hg⟩ => ?_
  subst he
  exact ⟨_, rfl, ⟨_, _, _, [], p, [], hW', (trodAll_cons_mk (shut_bool Try.underlying4 _) trodAll_mk0), args_stay laidOut hg (by kernel_rfl) hAk hlt, rfl, hg.frame _, fun h => by cases h⟩⟩

theorem over : Rows.bootmapRangesRow.holds Try.pinned (OpenSpec.ofChange Rows.bootmapRangesSpec) :=
  OpenClaim.holds_of_wide 4 Try.f4 rfl rfl rfl rfl rfl rfl rfl ⟨rfl, rfl, rfl, rfl, rfl⟩ rfl rfl rfl rfl rfl (by kernel_rfl) Try.func4 (by kernel_rfl)
    (of_decide_eq_true (by kernel_rfl)) (by unfold Func.isWrapper; first | (rw [if_pos (by decide +kernel)]; kernel_rfl) | (rw [if_neg (by decide +kernel)]; exact ⟨rfl, rfl⟩))
    (fun os started H enc _ => lifted os started H enc)

theorem proved : Rows.BootmapRangesSaid :=
  over
#print axioms proved
end Go.Proofs.Ytkgjeemecpigpaa.bootmapRanges
