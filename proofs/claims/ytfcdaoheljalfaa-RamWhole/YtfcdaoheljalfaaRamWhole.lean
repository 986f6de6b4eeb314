/- For any place, size and two numbers: in a memory of four frames with one hole a store that doesn't fit changes nothing, and a copy of a frame stays when the frame changes; no condition. -/
import Derived.Test.YtfcdaoheljalfaaRows
import Derived.WalkKit
import Derived.ProofKit
import Derived.OpenShut
import Derived.Test.YtfcdaoheljalfaaR18
namespace Go.Proofs.Ytfcdaoheljalfaa.ramWhole
open Go.ChangeShapes Go.WideShapes Go.ChangeAt Go.RowKit
open Go.Maps
set_option linter.unusedSimpArgs false
set_option linter.unusedVariables false

theorem own : ownKnob Try.prog.godebug = none := by kernel_rfl


set_option maxRecDepth 8000 in
set_option maxHeartbeats 4000000 in
theorem walk (a0 : Int) (a1 : Int) (a2 : Int) (a3 : Int) (w0 : (Lit.int .i64 a0).wf = true) (w1 : (Lit.int .i64 a1).wf = true) (w2 : (Lit.int .u64 a2).wf = true) (w3 : (Lit.int .u64 a3).wf = true) (w : World) :
    Calls Try.prog 5 #[.int .i64 a0, .int .i64 a1, .int .u64 a2, .int .u64 a3] w fun e w' => e = .returned (.bool true) ∧ Below w.heap.size w w' := by
  have u2 : 0 ≤ a2 ∧ a2 < 18446744073709551616 := by simp [Lit.wf, IntKind.min, IntKind.max, IntKind.signed, IntKind.bits] at w2; omega
  have u3 : 0 ≤ a3 ∧ a3 < 18446744073709551616 := by simp [Lit.wf, IntKind.min, IntKind.max, IntKind.signed, IntKind.bits] at w3; omega
  obtain ⟨x0, x1⟩ := u2
  obtain ⟨y0, y1⟩ := u3
  clear w0 w1 w2 w3
  have AW : Hid (∀ w : World, Calls Try.prog 10 #[] w fun e w' => e = .returned (.bool true) ∧ Below w.heap.size w w') := awake_any
  by_cases c : 0 ≤ a0 ∧ a0 ≤ 4096
  · obtain ⟨c1, c2⟩ := c
    have hmx : (100 : Nat) < maxLen := by unfold maxLen; decide
    have nw := new4 w
    have hnil := nil_no
    by_cases hs : a1 = 1 ∨ a1 = 2 ∨ a1 = 4 ∨ a1 = 8
    · by_cases hin : a0 + a1 ≤ 4096
      · have k1 := chk4_in hs c1 hin
        have k2 := chk4_far hs c1 c2
        have k3 : chkG h4 0 8 = 0 := chk4_in (by omega) (by omega) (by omega)
        rcases hs with rfl | rfl | rfl | rfl
        · obtain ⟨X, hX⟩ : ∃ X : Int, a2 % 256 ^ 1 = X := ⟨_, rfl⟩
          obtain ⟨M1, hM1⟩ : ∃ M1, mset (fun _ => 0) a0 1 a2 = M1 := ⟨_, rfl⟩
          obtain ⟨M2, hM2⟩ : ∃ M2, mcopy M1 2 0 = M2 := ⟨_, rfl⟩
          obtain ⟨M3, hM3⟩ : ∃ M3, mset M2 0 8 a3 = M3 := ⟨_, rfl⟩
          obtain ⟨M4, hM4⟩ : ∃ M4, mzero M3 0 = M4 := ⟨_, rfl⟩
          have l1 : ld M2 (8192 + a0) (1 : Int).toNat = X := by
            rw [← hM2, show (1 : Int).toNat = 1 from rfl, ld_copied c1 (by omega), ← hM1, ld_mset_low _ _ _ _ x0 1 (by omega)]; exact hX
          have l2 : ld M4 (8192 + a0) (1 : Int).toNat = X := by
            rw [← hM4, ← hM3, ld_kept c1]; exact l1
          have hc : clr M1 0 = (X == 0) := by rw [← hM1, ← hX]; exact clr_mset (m := 1) x0 c1 (by omega)
          have cz : clr M4 0 = true := by rw [← hM4]; exact clr_mzero M3
          have hX' : a2 % 256 = X := hX
          have X0 : 0 ≤ X ∧ X < 256 := by omega
          have S1 : Hid (∀ rb : Nat, Hid _) := fun rb => by have := st_at (B := w.heap.size + 1) (rb := rb) (has := h4) (F := 4) (fun _ => 0) 0 a0 1 a2 (by omega) c1 (by omega) k1 x0 x1; rw [hM1] at this; exact this
          have CP : Hid (∀ rb : Nat, Hid _) := fun rb => by have := cp_at (B := w.heap.size + 1) (rb := rb) (has := h4) (F := 4) M1 2 2 0 (by omega) (by omega) (by omega) (by omega) (by omega) h4_2 h4_0; rw [hM2] at this; exact this
          have E1 : Hid (∀ rb : Nat, Hid _) := fun rb => ce_at (B := w.heap.size + 1) (rb := rb) (has := h4) (F := 4) M2 3 1 0 (Or.inl h4_1)
          have E2 : Hid (∀ rb : Nat, Hid _) := fun rb => ce_at (B := w.heap.size + 1) (rb := rb) (has := h4) (F := 4) M2 3 0 1 (Or.inr h4_1)
          have L1 : Hid (∀ rb : Nat, Hid _) := fun rb => ld_at (B := w.heap.size + 1) (rb := rb) (has := h4) (F := 4) M2 3 (8192 + a0) 1 X (by omega) (by omega) k2 l1
          have S2 : Hid (∀ rb : Nat, Hid _) := fun rb => by have := st_at (B := w.heap.size + 1) (rb := rb) (has := h4) (F := 4) M2 3 0 8 a3 (by omega) (by omega) (by omega) k3 y0 y1; rw [hM3] at this; exact this
          have ZR : Hid (∀ rb : Nat, Hid _) := fun rb => by have := zr_at (B := w.heap.size + 1) (rb := rb) (has := h4) (F := 4) M3 5 0 (by omega) (by omega) h4_0; rw [hM4] at this; exact this
          have L2 : Hid (∀ rb : Nat, Hid _) := fun rb => ld_at (B := w.heap.size + 1) (rb := rb) (has := h4) (F := 4) M4 5 (8192 + a0) 1 X (by omega) (by omega) k2 l2
          have CZ : Hid (∀ rb : Nat, Hid _) := fun rb => cl_at (B := w.heap.size + 1) (rb := rb) (has := h4) (F := 4) M4 5 0 true (by omega) (by omega) cz
          by_cases hx : X = 0
          · have hq : clr M1 0 = true := by rw [hc]; rw [hx]; rfl
            have CL : Hid (∀ rb : Nat, Hid _) := fun rb => cl_at (B := w.heap.size + 1) (rb := rb) (has := h4) (F := 4) M1 2 0 true (by omega) (by omega) hq
            have tX : a2.tmod 256 = X := by rw [Int.tmod_eq_emod_of_nonneg x0]; exact hX'
            subst hx
            clear hc hq l1 l2 cz hX hM1 hM2 hM3 hM4 k1 k2 k3 hX'
            go_enter Try.func5, Try.ntmps5
            go_wp2_with fail
            refine (nw.out ()).mono ?_
            rintro e v0 ⟨rb, rfl, hI, hb⟩
            have HI0 : Hid (IsRam v0 (w.heap.size + 1) rb h4 4 (fun _ => 0) 0) := hI
            have HB0 : Hid (Below w.heap.size w v0) := hb
            clear hI hb
            go_wp2_with fail
            refine ((S1.out rb).out _ HI0.out).mono ?_
            rintro e v1 ⟨rfl, hI, hb⟩
            have HI1 : Hid (IsRam v1 (w.heap.size + 1) rb h4 4 M1 (0 + 2)) := hI
            have HB1 : Hid (Below w.heap.size w v1) := HB0.out.trans (hb.mono (by omega))
            clear hI hb HI0
            go_wp2_with fail
            refine ((CL.out rb).out _ HI1.out).mono ?_
            rintro e v2 ⟨rfl, rfl⟩
            go_wp2_with fail
            refine ((CP.out rb).out _ HI1.out).mono ?_
            rintro e v3 ⟨rfl, hI, hb⟩
            have HI3 : Hid (IsRam v3 (w.heap.size + 1) rb h4 4 M2 (2 + 1)) := hI
            have HB3 : Hid (Below w.heap.size w v3) := HB1.out.trans (hb.mono (by omega))
            clear hI hb HI1
            go_wp2_with fail
            refine ((E1.out rb).out _ HI3.out).mono ?_
            rintro e v4 ⟨rfl, hI, hb⟩
            have HI4 : Hid (IsRam v4 (w.heap.size + 1) rb h4 4 M2 3) := hI
            have HB4 : Hid (Below w.heap.size w v4) := HB3.out.trans (hb.mono (by omega))
            clear hI hb HI3
            go_wp2_with fail
            refine ((E2.out rb).out _ HI4.out).mono ?_
            rintro e v5 ⟨rfl, hI, hb⟩
            have HI5 : Hid (IsRam v5 (w.heap.size + 1) rb h4 4 M2 3) := hI
            have HB5 : Hid (Below w.heap.size w v5) := HB4.out.trans (hb.mono (by omega))
            clear hI hb HI4
            go_wp2_with fail
            refine ((L1.out rb).out _ HI5.out).mono ?_
            rintro e v6 ⟨rfl, hI, hb⟩
            have HI6 : Hid (IsRam v6 (w.heap.size + 1) rb h4 4 M2 3) := hI
            have HB6 : Hid (Below w.heap.size w v6) := HB5.out.trans (hb.mono (by omega))
            clear hI hb HI5
            go_wp2_with fail
            refine ((S2.out rb).out _ HI6.out).mono ?_
            rintro e v7 ⟨rfl, hI, hb⟩
            have HI7 : Hid (IsRam v7 (w.heap.size + 1) rb h4 4 M3 (3 + 2)) := hI
            have HB7 : Hid (Below w.heap.size w v7) := HB6.out.trans (hb.mono (by omega))
            clear hI hb HI6
            go_wp2_with fail
            refine ((ZR.out rb).out _ HI7.out).mono ?_
            rintro e v8 ⟨rfl, hI, hb⟩
            have HI8 : Hid (IsRam v8 (w.heap.size + 1) rb h4 4 M4 5) := hI
            have HB8 : Hid (Below w.heap.size w v8) := HB7.out.trans (hb.mono (by omega))
            clear hI hb HI7
            go_wp2_with fail
            refine ((L2.out rb).out _ HI8.out).mono ?_
            rintro e v9 ⟨rfl, hI, hb⟩
            have HI9 : Hid (IsRam v9 (w.heap.size + 1) rb h4 4 M4 5) := hI
            have HB9 : Hid (Below w.heap.size w v9) := HB8.out.trans (hb.mono (by omega))
            clear hI hb HI8
            go_wp2_with fail
            refine (AW.out _).mono ?_
            rintro e u1 ⟨rfl, hb⟩
            have HIa : Hid (IsRam u1 (w.heap.size + 1) rb h4 4 M4 5) := HI9.out.grown (grown_of_below' hb)
            have HBa : Hid (Below w.heap.size w u1) := HB9.out.trans (hb.mono HB9.out.size)
            clear hb
            go_wp2_with fail
            refine ((CZ.out rb).out _ HIa.out).mono ?_
            rintro e u2 ⟨rfl, rfl⟩
            go_wp2_with fail
            go_ret
            exact ⟨by simp, HBa.out⟩
          · have hq : clr M1 0 = false := by rw [hc]; exact beq_eq_false_iff_ne.2 hx
            have CL : Hid (∀ rb : Nat, Hid _) := fun rb => cl_at (B := w.heap.size + 1) (rb := rb) (has := h4) (F := 4) M1 2 0 false (by omega) (by omega) hq
            have tX : a2.tmod 256 = X := by rw [Int.tmod_eq_emod_of_nonneg x0]; exact hX'
            have nx : (X == 0) = false := beq_eq_false_iff_ne.2 hx
            have na : (a2 == 0) = false := beq_eq_false_iff_ne.2 (by omega)
            clear hc hq l1 l2 cz hX hM1 hM2 hM3 hM4 k1 k2 k3 hX' hx
            go_enter Try.func5, Try.ntmps5
            go_wp2_with fail
            refine (nw.out ()).mono ?_
            rintro e v0 ⟨rb, rfl, hI, hb⟩
            have HI0 : Hid (IsRam v0 (w.heap.size + 1) rb h4 4 (fun _ => 0) 0) := hI
            have HB0 : Hid (Below w.heap.size w v0) := hb
            clear hI hb
            go_wp2_with fail
            refine ((S1.out rb).out _ HI0.out).mono ?_
            rintro e v1 ⟨rfl, hI, hb⟩
            have HI1 : Hid (IsRam v1 (w.heap.size + 1) rb h4 4 M1 (0 + 2)) := hI
            have HB1 : Hid (Below w.heap.size w v1) := HB0.out.trans (hb.mono (by omega))
            clear hI hb HI0
            go_wp2_with fail
            refine ((CL.out rb).out _ HI1.out).mono ?_
            rintro e v2 ⟨rfl, rfl⟩
            go_wp2_with fail
            refine ((CP.out rb).out _ HI1.out).mono ?_
            rintro e v3 ⟨rfl, hI, hb⟩
            have HI3 : Hid (IsRam v3 (w.heap.size + 1) rb h4 4 M2 (2 + 1)) := hI
            have HB3 : Hid (Below w.heap.size w v3) := HB1.out.trans (hb.mono (by omega))
            clear hI hb HI1
            go_wp2_with fail
            refine ((E1.out rb).out _ HI3.out).mono ?_
            rintro e v4 ⟨rfl, hI, hb⟩
            have HI4 : Hid (IsRam v4 (w.heap.size + 1) rb h4 4 M2 3) := hI
            have HB4 : Hid (Below w.heap.size w v4) := HB3.out.trans (hb.mono (by omega))
            clear hI hb HI3
            go_wp2_with fail
            refine ((E2.out rb).out _ HI4.out).mono ?_
            rintro e v5 ⟨rfl, hI, hb⟩
            have HI5 : Hid (IsRam v5 (w.heap.size + 1) rb h4 4 M2 3) := hI
            have HB5 : Hid (Below w.heap.size w v5) := HB4.out.trans (hb.mono (by omega))
            clear hI hb HI4
            go_wp2_with fail
            refine ((L1.out rb).out _ HI5.out).mono ?_
            rintro e v6 ⟨rfl, hI, hb⟩
            have HI6 : Hid (IsRam v6 (w.heap.size + 1) rb h4 4 M2 3) := hI
            have HB6 : Hid (Below w.heap.size w v6) := HB5.out.trans (hb.mono (by omega))
            clear hI hb HI5
            go_wp2_with fail
            refine ((S2.out rb).out _ HI6.out).mono ?_
            rintro e v7 ⟨rfl, hI, hb⟩
            have HI7 : Hid (IsRam v7 (w.heap.size + 1) rb h4 4 M3 (3 + 2)) := hI
            have HB7 : Hid (Below w.heap.size w v7) := HB6.out.trans (hb.mono (by omega))
            clear hI hb HI6
            go_wp2_with fail
            refine ((ZR.out rb).out _ HI7.out).mono ?_
            rintro e v8 ⟨rfl, hI, hb⟩
            have HI8 : Hid (IsRam v8 (w.heap.size + 1) rb h4 4 M4 5) := hI
            have HB8 : Hid (Below w.heap.size w v8) := HB7.out.trans (hb.mono (by omega))
            clear hI hb HI7
            go_wp2_with fail
            refine ((L2.out rb).out _ HI8.out).mono ?_
            rintro e v9 ⟨rfl, hI, hb⟩
            have HI9 : Hid (IsRam v9 (w.heap.size + 1) rb h4 4 M4 5) := hI
            have HB9 : Hid (Below w.heap.size w v9) := HB8.out.trans (hb.mono (by omega))
            clear hI hb HI8
            go_wp2_with fail
            refine (AW.out _).mono ?_
            rintro e u1 ⟨rfl, hb⟩
            have HIa : Hid (IsRam u1 (w.heap.size + 1) rb h4 4 M4 5) := HI9.out.grown (grown_of_below' hb)
            have HBa : Hid (Below w.heap.size w u1) := HB9.out.trans (hb.mono HB9.out.size)
            clear hb
            go_wp2_with fail
            refine ((CZ.out rb).out _ HIa.out).mono ?_
            rintro e u2 ⟨rfl, rfl⟩
            go_wp2_with fail
            go_ret
            exact ⟨by simp, HBa.out⟩
        · obtain ⟨X, hX⟩ : ∃ X : Int, a2 % 256 ^ 2 = X := ⟨_, rfl⟩
          obtain ⟨M1, hM1⟩ : ∃ M1, mset (fun _ => 0) a0 2 a2 = M1 := ⟨_, rfl⟩
          obtain ⟨M2, hM2⟩ : ∃ M2, mcopy M1 2 0 = M2 := ⟨_, rfl⟩
          obtain ⟨M3, hM3⟩ : ∃ M3, mset M2 0 8 a3 = M3 := ⟨_, rfl⟩
          obtain ⟨M4, hM4⟩ : ∃ M4, mzero M3 0 = M4 := ⟨_, rfl⟩
          have l1 : ld M2 (8192 + a0) (2 : Int).toNat = X := by
            rw [← hM2, show (2 : Int).toNat = 2 from rfl, ld_copied c1 (by omega), ← hM1, ld_mset_low _ _ _ _ x0 2 (by omega)]; exact hX
          have l2 : ld M4 (8192 + a0) (2 : Int).toNat = X := by
            rw [← hM4, ← hM3, ld_kept c1]; exact l1
          have hc : clr M1 0 = (X == 0) := by rw [← hM1, ← hX]; exact clr_mset (m := 2) x0 c1 (by omega)
          have cz : clr M4 0 = true := by rw [← hM4]; exact clr_mzero M3
          have hX' : a2 % 65536 = X := hX
          have X0 : 0 ≤ X ∧ X < 65536 := by omega
          have S1 : Hid (∀ rb : Nat, Hid _) := fun rb => by have := st_at (B := w.heap.size + 1) (rb := rb) (has := h4) (F := 4) (fun _ => 0) 0 a0 2 a2 (by omega) c1 (by omega) k1 x0 x1; rw [hM1] at this; exact this
          have CP : Hid (∀ rb : Nat, Hid _) := fun rb => by have := cp_at (B := w.heap.size + 1) (rb := rb) (has := h4) (F := 4) M1 2 2 0 (by omega) (by omega) (by omega) (by omega) (by omega) h4_2 h4_0; rw [hM2] at this; exact this
          have E1 : Hid (∀ rb : Nat, Hid _) := fun rb => ce_at (B := w.heap.size + 1) (rb := rb) (has := h4) (F := 4) M2 3 1 0 (Or.inl h4_1)
          have E2 : Hid (∀ rb : Nat, Hid _) := fun rb => ce_at (B := w.heap.size + 1) (rb := rb) (has := h4) (F := 4) M2 3 0 1 (Or.inr h4_1)
          have L1 : Hid (∀ rb : Nat, Hid _) := fun rb => ld_at (B := w.heap.size + 1) (rb := rb) (has := h4) (F := 4) M2 3 (8192 + a0) 2 X (by omega) (by omega) k2 l1
          have S2 : Hid (∀ rb : Nat, Hid _) := fun rb => by have := st_at (B := w.heap.size + 1) (rb := rb) (has := h4) (F := 4) M2 3 0 8 a3 (by omega) (by omega) (by omega) k3 y0 y1; rw [hM3] at this; exact this
          have ZR : Hid (∀ rb : Nat, Hid _) := fun rb => by have := zr_at (B := w.heap.size + 1) (rb := rb) (has := h4) (F := 4) M3 5 0 (by omega) (by omega) h4_0; rw [hM4] at this; exact this
          have L2 : Hid (∀ rb : Nat, Hid _) := fun rb => ld_at (B := w.heap.size + 1) (rb := rb) (has := h4) (F := 4) M4 5 (8192 + a0) 2 X (by omega) (by omega) k2 l2
          have CZ : Hid (∀ rb : Nat, Hid _) := fun rb => cl_at (B := w.heap.size + 1) (rb := rb) (has := h4) (F := 4) M4 5 0 true (by omega) (by omega) cz
          by_cases hx : X = 0
          · have hq : clr M1 0 = true := by rw [hc]; rw [hx]; rfl
            have CL : Hid (∀ rb : Nat, Hid _) := fun rb => cl_at (B := w.heap.size + 1) (rb := rb) (has := h4) (F := 4) M1 2 0 true (by omega) (by omega) hq
            have tX : a2.tmod 65536 = X := by rw [Int.tmod_eq_emod_of_nonneg x0]; exact hX'
            subst hx
            clear hc hq l1 l2 cz hX hM1 hM2 hM3 hM4 k1 k2 k3 hX'
            go_enter Try.func5, Try.ntmps5
            go_wp2_with fail
            refine (nw.out ()).mono ?_
            rintro e v0 ⟨rb, rfl, hI, hb⟩
            have HI0 : Hid (IsRam v0 (w.heap.size + 1) rb h4 4 (fun _ => 0) 0) := hI
            have HB0 : Hid (Below w.heap.size w v0) := hb
            clear hI hb
            go_wp2_with fail
            refine ((S1.out rb).out _ HI0.out).mono ?_
            rintro e v1 ⟨rfl, hI, hb⟩
            have HI1 : Hid (IsRam v1 (w.heap.size + 1) rb h4 4 M1 (0 + 2)) := hI
            have HB1 : Hid (Below w.heap.size w v1) := HB0.out.trans (hb.mono (by omega))
            clear hI hb HI0
            go_wp2_with fail
            refine ((CL.out rb).out _ HI1.out).mono ?_
            rintro e v2 ⟨rfl, rfl⟩
            go_wp2_with fail
            refine ((CP.out rb).out _ HI1.out).mono ?_
            rintro e v3 ⟨rfl, hI, hb⟩
            have HI3 : Hid (IsRam v3 (w.heap.size + 1) rb h4 4 M2 (2 + 1)) := hI
            have HB3 : Hid (Below w.heap.size w v3) := HB1.out.trans (hb.mono (by omega))
            clear hI hb HI1
            go_wp2_with fail
            refine ((E1.out rb).out _ HI3.out).mono ?_
            rintro e v4 ⟨rfl, hI, hb⟩
            have HI4 : Hid (IsRam v4 (w.heap.size + 1) rb h4 4 M2 3) := hI
            have HB4 : Hid (Below w.heap.size w v4) := HB3.out.trans (hb.mono (by omega))
            clear hI hb HI3
            go_wp2_with fail
            refine ((E2.out rb).out _ HI4.out).mono ?_
            rintro e v5 ⟨rfl, hI, hb⟩
            have HI5 : Hid (IsRam v5 (w.heap.size + 1) rb h4 4 M2 3) := hI
            have HB5 : Hid (Below w.heap.size w v5) := HB4.out.trans (hb.mono (by omega))
            clear hI hb HI4
            go_wp2_with fail
            refine ((L1.out rb).out _ HI5.out).mono ?_
            rintro e v6 ⟨rfl, hI, hb⟩
            have HI6 : Hid (IsRam v6 (w.heap.size + 1) rb h4 4 M2 3) := hI
            have HB6 : Hid (Below w.heap.size w v6) := HB5.out.trans (hb.mono (by omega))
            clear hI hb HI5
            go_wp2_with fail
            refine ((S2.out rb).out _ HI6.out).mono ?_
            rintro e v7 ⟨rfl, hI, hb⟩
            have HI7 : Hid (IsRam v7 (w.heap.size + 1) rb h4 4 M3 (3 + 2)) := hI
            have HB7 : Hid (Below w.heap.size w v7) := HB6.out.trans (hb.mono (by omega))
            clear hI hb HI6
            go_wp2_with fail
            refine ((ZR.out rb).out _ HI7.out).mono ?_
            rintro e v8 ⟨rfl, hI, hb⟩
            have HI8 : Hid (IsRam v8 (w.heap.size + 1) rb h4 4 M4 5) := hI
            have HB8 : Hid (Below w.heap.size w v8) := HB7.out.trans (hb.mono (by omega))
            clear hI hb HI7
            go_wp2_with fail
            refine ((L2.out rb).out _ HI8.out).mono ?_
            rintro e v9 ⟨rfl, hI, hb⟩
            have HI9 : Hid (IsRam v9 (w.heap.size + 1) rb h4 4 M4 5) := hI
            have HB9 : Hid (Below w.heap.size w v9) := HB8.out.trans (hb.mono (by omega))
            clear hI hb HI8
            go_wp2_with fail
            refine (AW.out _).mono ?_
            rintro e u1 ⟨rfl, hb⟩
            have HIa : Hid (IsRam u1 (w.heap.size + 1) rb h4 4 M4 5) := HI9.out.grown (grown_of_below' hb)
            have HBa : Hid (Below w.heap.size w u1) := HB9.out.trans (hb.mono HB9.out.size)
            clear hb
            go_wp2_with fail
            refine ((CZ.out rb).out _ HIa.out).mono ?_
            rintro e u2 ⟨rfl, rfl⟩
            go_wp2_with fail
            go_ret
            exact ⟨by simp, HBa.out⟩
          · have hq : clr M1 0 = false := by rw [hc]; exact beq_eq_false_iff_ne.2 hx
            have CL : Hid (∀ rb : Nat, Hid _) := fun rb => cl_at (B := w.heap.size + 1) (rb := rb) (has := h4) (F := 4) M1 2 0 false (by omega) (by omega) hq
            have tX : a2.tmod 65536 = X := by rw [Int.tmod_eq_emod_of_nonneg x0]; exact hX'
            have nx : (X == 0) = false := beq_eq_false_iff_ne.2 hx
            have na : (a2 == 0) = false := beq_eq_false_iff_ne.2 (by omega)
            clear hc hq l1 l2 cz hX hM1 hM2 hM3 hM4 k1 k2 k3 hX' hx
            go_enter Try.func5, Try.ntmps5
            go_wp2_with fail
            refine (nw.out ()).mono ?_
            rintro e v0 ⟨rb, rfl, hI, hb⟩
            have HI0 : Hid (IsRam v0 (w.heap.size + 1) rb h4 4 (fun _ => 0) 0) := hI
            have HB0 : Hid (Below w.heap.size w v0) := hb
            clear hI hb
            go_wp2_with fail
            refine ((S1.out rb).out _ HI0.out).mono ?_
            rintro e v1 ⟨rfl, hI, hb⟩
            have HI1 : Hid (IsRam v1 (w.heap.size + 1) rb h4 4 M1 (0 + 2)) := hI
            have HB1 : Hid (Below w.heap.size w v1) := HB0.out.trans (hb.mono (by omega))
            clear hI hb HI0
            go_wp2_with fail
            refine ((CL.out rb).out _ HI1.out).mono ?_
            rintro e v2 ⟨rfl, rfl⟩
            go_wp2_with fail
            refine ((CP.out rb).out _ HI1.out).mono ?_
            rintro e v3 ⟨rfl, hI, hb⟩
            have HI3 : Hid (IsRam v3 (w.heap.size + 1) rb h4 4 M2 (2 + 1)) := hI
            have HB3 : Hid (Below w.heap.size w v3) := HB1.out.trans (hb.mono (by omega))
            clear hI hb HI1
            go_wp2_with fail
            refine ((E1.out rb).out _ HI3.out).mono ?_
            rintro e v4 ⟨rfl, hI, hb⟩
            have HI4 : Hid (IsRam v4 (w.heap.size + 1) rb h4 4 M2 3) := hI
            have HB4 : Hid (Below w.heap.size w v4) := HB3.out.trans (hb.mono (by omega))
            clear hI hb HI3
            go_wp2_with fail
            refine ((E2.out rb).out _ HI4.out).mono ?_
            rintro e v5 ⟨rfl, hI, hb⟩
            have HI5 : Hid (IsRam v5 (w.heap.size + 1) rb h4 4 M2 3) := hI
            have HB5 : Hid (Below w.heap.size w v5) := HB4.out.trans (hb.mono (by omega))
            clear hI hb HI4
            go_wp2_with fail
            refine ((L1.out rb).out _ HI5.out).mono ?_
            rintro e v6 ⟨rfl, hI, hb⟩
            have HI6 : Hid (IsRam v6 (w.heap.size + 1) rb h4 4 M2 3) := hI
            have HB6 : Hid (Below w.heap.size w v6) := HB5.out.trans (hb.mono (by omega))
            clear hI hb HI5
            go_wp2_with fail
            refine ((S2.out rb).out _ HI6.out).mono ?_
            rintro e v7 ⟨rfl, hI, hb⟩
            have HI7 : Hid (IsRam v7 (w.heap.size + 1) rb h4 4 M3 (3 + 2)) := hI
            have HB7 : Hid (Below w.heap.size w v7) := HB6.out.trans (hb.mono (by omega))
            clear hI hb HI6
            go_wp2_with fail
            refine ((ZR.out rb).out _ HI7.out).mono ?_
            rintro e v8 ⟨rfl, hI, hb⟩
            have HI8 : Hid (IsRam v8 (w.heap.size + 1) rb h4 4 M4 5) := hI
            have HB8 : Hid (Below w.heap.size w v8) := HB7.out.trans (hb.mono (by omega))
            clear hI hb HI7
            go_wp2_with fail
            refine ((L2.out rb).out _ HI8.out).mono ?_
            rintro e v9 ⟨rfl, hI, hb⟩
            have HI9 : Hid (IsRam v9 (w.heap.size + 1) rb h4 4 M4 5) := hI
            have HB9 : Hid (Below w.heap.size w v9) := HB8.out.trans (hb.mono (by omega))
            clear hI hb HI8
            go_wp2_with fail
            refine (AW.out _).mono ?_
            rintro e u1 ⟨rfl, hb⟩
            have HIa : Hid (IsRam u1 (w.heap.size + 1) rb h4 4 M4 5) := HI9.out.grown (grown_of_below' hb)
            have HBa : Hid (Below w.heap.size w u1) := HB9.out.trans (hb.mono HB9.out.size)
            clear hb
            go_wp2_with fail
            refine ((CZ.out rb).out _ HIa.out).mono ?_
            rintro e u2 ⟨rfl, rfl⟩
            go_wp2_with fail
            go_ret
            exact ⟨by simp, HBa.out⟩
        · obtain ⟨X, hX⟩ : ∃ X : Int, a2 % 256 ^ 4 = X := ⟨_, rfl⟩
          obtain ⟨M1, hM1⟩ : ∃ M1, mset (fun _ => 0) a0 4 a2 = M1 := ⟨_, rfl⟩
          obtain ⟨M2, hM2⟩ : ∃ M2, mcopy M1 2 0 = M2 := ⟨_, rfl⟩
          obtain ⟨M3, hM3⟩ : ∃ M3, mset M2 0 8 a3 = M3 := ⟨_, rfl⟩
          obtain ⟨M4, hM4⟩ : ∃ M4, mzero M3 0 = M4 := ⟨_, rfl⟩
          have l1 : ld M2 (8192 + a0) (4 : Int).toNat = X := by
            rw [← hM2, show (4 : Int).toNat = 4 from rfl, ld_copied c1 (by omega), ← hM1, ld_mset_low _ _ _ _ x0 4 (by omega)]; exact hX
          have l2 : ld M4 (8192 + a0) (4 : Int).toNat = X := by
            rw [← hM4, ← hM3, ld_kept c1]; exact l1
          have hc : clr M1 0 = (X == 0) := by rw [← hM1, ← hX]; exact clr_mset (m := 4) x0 c1 (by omega)
          have cz : clr M4 0 = true := by rw [← hM4]; exact clr_mzero M3
          have hX' : a2 % 4294967296 = X := hX
          have X0 : 0 ≤ X ∧ X < 4294967296 := by omega
          have S1 : Hid (∀ rb : Nat, Hid _) := fun rb => by have := st_at (B := w.heap.size + 1) (rb := rb) (has := h4) (F := 4) (fun _ => 0) 0 a0 4 a2 (by omega) c1 (by omega) k1 x0 x1; rw [hM1] at this; exact this
          have CP : Hid (∀ rb : Nat, Hid _) := fun rb => by have := cp_at (B := w.heap.size + 1) (rb := rb) (has := h4) (F := 4) M1 2 2 0 (by omega) (by omega) (by omega) (by omega) (by omega) h4_2 h4_0; rw [hM2] at this; exact this
          have E1 : Hid (∀ rb : Nat, Hid _) := fun rb => ce_at (B := w.heap.size + 1) (rb := rb) (has := h4) (F := 4) M2 3 1 0 (Or.inl h4_1)
          have E2 : Hid (∀ rb : Nat, Hid _) := fun rb => ce_at (B := w.heap.size + 1) (rb := rb) (has := h4) (F := 4) M2 3 0 1 (Or.inr h4_1)
          have L1 : Hid (∀ rb : Nat, Hid _) := fun rb => ld_at (B := w.heap.size + 1) (rb := rb) (has := h4) (F := 4) M2 3 (8192 + a0) 4 X (by omega) (by omega) k2 l1
          have S2 : Hid (∀ rb : Nat, Hid _) := fun rb => by have := st_at (B := w.heap.size + 1) (rb := rb) (has := h4) (F := 4) M2 3 0 8 a3 (by omega) (by omega) (by omega) k3 y0 y1; rw [hM3] at this; exact this
          have ZR : Hid (∀ rb : Nat, Hid _) := fun rb => by have := zr_at (B := w.heap.size + 1) (rb := rb) (has := h4) (F := 4) M3 5 0 (by omega) (by omega) h4_0; rw [hM4] at this; exact this
          have L2 : Hid (∀ rb : Nat, Hid _) := fun rb => ld_at (B := w.heap.size + 1) (rb := rb) (has := h4) (F := 4) M4 5 (8192 + a0) 4 X (by omega) (by omega) k2 l2
          have CZ : Hid (∀ rb : Nat, Hid _) := fun rb => cl_at (B := w.heap.size + 1) (rb := rb) (has := h4) (F := 4) M4 5 0 true (by omega) (by omega) cz
          by_cases hx : X = 0
          · have hq : clr M1 0 = true := by rw [hc]; rw [hx]; rfl
            have CL : Hid (∀ rb : Nat, Hid _) := fun rb => cl_at (B := w.heap.size + 1) (rb := rb) (has := h4) (F := 4) M1 2 0 true (by omega) (by omega) hq
            have tX : a2.tmod 4294967296 = X := by rw [Int.tmod_eq_emod_of_nonneg x0]; exact hX'
            subst hx
            clear hc hq l1 l2 cz hX hM1 hM2 hM3 hM4 k1 k2 k3 hX'
            go_enter Try.func5, Try.ntmps5
            go_wp2_with fail
            refine (nw.out ()).mono ?_
            rintro e v0 ⟨rb, rfl, hI, hb⟩
            have HI0 : Hid (IsRam v0 (w.heap.size + 1) rb h4 4 (fun _ => 0) 0) := hI
            have HB0 : Hid (Below w.heap.size w v0) := hb
            clear hI hb
            go_wp2_with fail
            refine ((S1.out rb).out _ HI0.out).mono ?_
            rintro e v1 ⟨rfl, hI, hb⟩
            have HI1 : Hid (IsRam v1 (w.heap.size + 1) rb h4 4 M1 (0 + 2)) := hI
            have HB1 : Hid (Below w.heap.size w v1) := HB0.out.trans (hb.mono (by omega))
            clear hI hb HI0
            go_wp2_with fail
            refine ((CL.out rb).out _ HI1.out).mono ?_
            rintro e v2 ⟨rfl, rfl⟩
            go_wp2_with fail
            refine ((CP.out rb).out _ HI1.out).mono ?_
            rintro e v3 ⟨rfl, hI, hb⟩
            have HI3 : Hid (IsRam v3 (w.heap.size + 1) rb h4 4 M2 (2 + 1)) := hI
            have HB3 : Hid (Below w.heap.size w v3) := HB1.out.trans (hb.mono (by omega))
            clear hI hb HI1
            go_wp2_with fail
            refine ((E1.out rb).out _ HI3.out).mono ?_
            rintro e v4 ⟨rfl, hI, hb⟩
            have HI4 : Hid (IsRam v4 (w.heap.size + 1) rb h4 4 M2 3) := hI
            have HB4 : Hid (Below w.heap.size w v4) := HB3.out.trans (hb.mono (by omega))
            clear hI hb HI3
            go_wp2_with fail
            refine ((E2.out rb).out _ HI4.out).mono ?_
            rintro e v5 ⟨rfl, hI, hb⟩
            have HI5 : Hid (IsRam v5 (w.heap.size + 1) rb h4 4 M2 3) := hI
            have HB5 : Hid (Below w.heap.size w v5) := HB4.out.trans (hb.mono (by omega))
            clear hI hb HI4
            go_wp2_with fail
            refine ((L1.out rb).out _ HI5.out).mono ?_
            rintro e v6 ⟨rfl, hI, hb⟩
            have HI6 : Hid (IsRam v6 (w.heap.size + 1) rb h4 4 M2 3) := hI
            have HB6 : Hid (Below w.heap.size w v6) := HB5.out.trans (hb.mono (by omega))
            clear hI hb HI5
            go_wp2_with fail
            refine ((S2.out rb).out _ HI6.out).mono ?_
            rintro e v7 ⟨rfl, hI, hb⟩
            have HI7 : Hid (IsRam v7 (w.heap.size + 1) rb h4 4 M3 (3 + 2)) := hI
            have HB7 : Hid (Below w.heap.size w v7) := HB6.out.trans (hb.mono (by omega))
            clear hI hb HI6
            go_wp2_with fail
            refine ((ZR.out rb).out _ HI7.out).mono ?_
            rintro e v8 ⟨rfl, hI, hb⟩
            have HI8 : Hid (IsRam v8 (w.heap.size + 1) rb h4 4 M4 5) := hI
            have HB8 : Hid (Below w.heap.size w v8) := HB7.out.trans (hb.mono (by omega))
            clear hI hb HI7
            go_wp2_with fail
            refine ((L2.out rb).out _ HI8.out).mono ?_
            rintro e v9 ⟨rfl, hI, hb⟩
            have HI9 : Hid (IsRam v9 (w.heap.size + 1) rb h4 4 M4 5) := hI
            have HB9 : Hid (Below w.heap.size w v9) := HB8.out.trans (hb.mono (by omega))
            clear hI hb HI8
            go_wp2_with fail
            refine (AW.out _).mono ?_
            rintro e u1 ⟨rfl, hb⟩
            have HIa : Hid (IsRam u1 (w.heap.size + 1) rb h4 4 M4 5) := HI9.out.grown (grown_of_below' hb)
            have HBa : Hid (Below w.heap.size w u1) := HB9.out.trans (hb.mono HB9.out.size)
            clear hb
            go_wp2_with fail
            refine ((CZ.out rb).out _ HIa.out).mono ?_
            rintro e u2 ⟨rfl, rfl⟩
            go_wp2_with fail
            go_ret
            exact ⟨by simp, HBa.out⟩
          · have hq : clr M1 0 = false := by rw [hc]; exact beq_eq_false_iff_ne.2 hx
            have CL : Hid (∀ rb : Nat, Hid _) := fun rb => cl_at (B := w.heap.size + 1) (rb := rb) (has := h4) (F := 4) M1 2 0 false (by omega) (by omega) hq
            have tX : a2.tmod 4294967296 = X := by rw [Int.tmod_eq_emod_of_nonneg x0]; exact hX'
            have nx : (X == 0) = false := beq_eq_false_iff_ne.2 hx
            have na : (a2 == 0) = false := beq_eq_false_iff_ne.2 (by omega)
            clear hc hq l1 l2 cz hX hM1 hM2 hM3 hM4 k1 k2 k3 hX' hx
            go_enter Try.func5, Try.ntmps5
            go_wp2_with fail
            refine (nw.out ()).mono ?_
            rintro e v0 ⟨rb, rfl, hI, hb⟩
            have HI0 : Hid (IsRam v0 (w.heap.size + 1) rb h4 4 (fun _ => 0) 0) := hI
            have HB0 : Hid (Below w.heap.size w v0) := hb
            clear hI hb
            go_wp2_with fail
            refine ((S1.out rb).out _ HI0.out).mono ?_
            rintro e v1 ⟨rfl, hI, hb⟩
            have HI1 : Hid (IsRam v1 (w.heap.size + 1) rb h4 4 M1 (0 + 2)) := hI
            have HB1 : Hid (Below w.heap.size w v1) := HB0.out.trans (hb.mono (by omega))
            clear hI hb HI0
            go_wp2_with fail
            refine ((CL.out rb).out _ HI1.out).mono ?_
            rintro e v2 ⟨rfl, rfl⟩
            go_wp2_with fail
            refine ((CP.out rb).out _ HI1.out).mono ?_
            rintro e v3 ⟨rfl, hI, hb⟩
            have HI3 : Hid (IsRam v3 (w.heap.size + 1) rb h4 4 M2 (2 + 1)) := hI
            have HB3 : Hid (Below w.heap.size w v3) := HB1.out.trans (hb.mono (by omega))
            clear hI hb HI1
            go_wp2_with fail
            refine ((E1.out rb).out _ HI3.out).mono ?_
            rintro e v4 ⟨rfl, hI, hb⟩
            have HI4 : Hid (IsRam v4 (w.heap.size + 1) rb h4 4 M2 3) := hI
            have HB4 : Hid (Below w.heap.size w v4) := HB3.out.trans (hb.mono (by omega))
            clear hI hb HI3
            go_wp2_with fail
            refine ((E2.out rb).out _ HI4.out).mono ?_
            rintro e v5 ⟨rfl, hI, hb⟩
            have HI5 : Hid (IsRam v5 (w.heap.size + 1) rb h4 4 M2 3) := hI
            have HB5 : Hid (Below w.heap.size w v5) := HB4.out.trans (hb.mono (by omega))
            clear hI hb HI4
            go_wp2_with fail
            refine ((L1.out rb).out _ HI5.out).mono ?_
            rintro e v6 ⟨rfl, hI, hb⟩
            have HI6 : Hid (IsRam v6 (w.heap.size + 1) rb h4 4 M2 3) := hI
            have HB6 : Hid (Below w.heap.size w v6) := HB5.out.trans (hb.mono (by omega))
            clear hI hb HI5
            go_wp2_with fail
            refine ((S2.out rb).out _ HI6.out).mono ?_
            rintro e v7 ⟨rfl, hI, hb⟩
            have HI7 : Hid (IsRam v7 (w.heap.size + 1) rb h4 4 M3 (3 + 2)) := hI
            have HB7 : Hid (Below w.heap.size w v7) := HB6.out.trans (hb.mono (by omega))
            clear hI hb HI6
            go_wp2_with fail
            refine ((ZR.out rb).out _ HI7.out).mono ?_
            rintro e v8 ⟨rfl, hI, hb⟩
            have HI8 : Hid (IsRam v8 (w.heap.size + 1) rb h4 4 M4 5) := hI
            have HB8 : Hid (Below w.heap.size w v8) := HB7.out.trans (hb.mono (by omega))
            clear hI hb HI7
            go_wp2_with fail
            refine ((L2.out rb).out _ HI8.out).mono ?_
            rintro e v9 ⟨rfl, hI, hb⟩
            have HI9 : Hid (IsRam v9 (w.heap.size + 1) rb h4 4 M4 5) := hI
            have HB9 : Hid (Below w.heap.size w v9) := HB8.out.trans (hb.mono (by omega))
            clear hI hb HI8
            go_wp2_with fail
            refine (AW.out _).mono ?_
            rintro e u1 ⟨rfl, hb⟩
            have HIa : Hid (IsRam u1 (w.heap.size + 1) rb h4 4 M4 5) := HI9.out.grown (grown_of_below' hb)
            have HBa : Hid (Below w.heap.size w u1) := HB9.out.trans (hb.mono HB9.out.size)
            clear hb
            go_wp2_with fail
            refine ((CZ.out rb).out _ HIa.out).mono ?_
            rintro e u2 ⟨rfl, rfl⟩
            go_wp2_with fail
            go_ret
            exact ⟨by simp, HBa.out⟩
        · obtain ⟨X, hX⟩ : ∃ X : Int, a2 % 256 ^ 8 = X := ⟨_, rfl⟩
          obtain ⟨M1, hM1⟩ : ∃ M1, mset (fun _ => 0) a0 8 a2 = M1 := ⟨_, rfl⟩
          obtain ⟨M2, hM2⟩ : ∃ M2, mcopy M1 2 0 = M2 := ⟨_, rfl⟩
          obtain ⟨M3, hM3⟩ : ∃ M3, mset M2 0 8 a3 = M3 := ⟨_, rfl⟩
          obtain ⟨M4, hM4⟩ : ∃ M4, mzero M3 0 = M4 := ⟨_, rfl⟩
          have l1 : ld M2 (8192 + a0) (8 : Int).toNat = X := by
            rw [← hM2, show (8 : Int).toNat = 8 from rfl, ld_copied c1 (by omega), ← hM1, ld_mset_low _ _ _ _ x0 8 (by omega)]; exact hX
          have l2 : ld M4 (8192 + a0) (8 : Int).toNat = X := by
            rw [← hM4, ← hM3, ld_kept c1]; exact l1
          have hc : clr M1 0 = (X == 0) := by rw [← hM1, ← hX]; exact clr_mset (m := 8) x0 c1 (by omega)
          have cz : clr M4 0 = true := by rw [← hM4]; exact clr_mzero M3
          have hX' : a2 % 18446744073709551616 = X := hX
          have X0 : 0 ≤ X ∧ X < 18446744073709551616 := by omega
          have S1 : Hid (∀ rb : Nat, Hid _) := fun rb => by have := st_at (B := w.heap.size + 1) (rb := rb) (has := h4) (F := 4) (fun _ => 0) 0 a0 8 a2 (by omega) c1 (by omega) k1 x0 x1; rw [hM1] at this; exact this
          have CP : Hid (∀ rb : Nat, Hid _) := fun rb => by have := cp_at (B := w.heap.size + 1) (rb := rb) (has := h4) (F := 4) M1 2 2 0 (by omega) (by omega) (by omega) (by omega) (by omega) h4_2 h4_0; rw [hM2] at this; exact this
          have E1 : Hid (∀ rb : Nat, Hid _) := fun rb => ce_at (B := w.heap.size + 1) (rb := rb) (has := h4) (F := 4) M2 3 1 0 (Or.inl h4_1)
          have E2 : Hid (∀ rb : Nat, Hid _) := fun rb => ce_at (B := w.heap.size + 1) (rb := rb) (has := h4) (F := 4) M2 3 0 1 (Or.inr h4_1)
          have L1 : Hid (∀ rb : Nat, Hid _) := fun rb => ld_at (B := w.heap.size + 1) (rb := rb) (has := h4) (F := 4) M2 3 (8192 + a0) 8 X (by omega) (by omega) k2 l1
          have S2 : Hid (∀ rb : Nat, Hid _) := fun rb => by have := st_at (B := w.heap.size + 1) (rb := rb) (has := h4) (F := 4) M2 3 0 8 a3 (by omega) (by omega) (by omega) k3 y0 y1; rw [hM3] at this; exact this
          have ZR : Hid (∀ rb : Nat, Hid _) := fun rb => by have := zr_at (B := w.heap.size + 1) (rb := rb) (has := h4) (F := 4) M3 5 0 (by omega) (by omega) h4_0; rw [hM4] at this; exact this
          have L2 : Hid (∀ rb : Nat, Hid _) := fun rb => ld_at (B := w.heap.size + 1) (rb := rb) (has := h4) (F := 4) M4 5 (8192 + a0) 8 X (by omega) (by omega) k2 l2
          have CZ : Hid (∀ rb : Nat, Hid _) := fun rb => cl_at (B := w.heap.size + 1) (rb := rb) (has := h4) (F := 4) M4 5 0 true (by omega) (by omega) cz
          by_cases hx : X = 0
          · have hq : clr M1 0 = true := by rw [hc]; rw [hx]; rfl
            have CL : Hid (∀ rb : Nat, Hid _) := fun rb => cl_at (B := w.heap.size + 1) (rb := rb) (has := h4) (F := 4) M1 2 0 true (by omega) (by omega) hq
            obtain rfl : a2 = X := by omega
            subst hx
            clear hc hq l1 l2 cz hX hM1 hM2 hM3 hM4 k1 k2 k3 hX'
            go_enter Try.func5, Try.ntmps5
            go_wp2_with fail
            refine (nw.out ()).mono ?_
            rintro e v0 ⟨rb, rfl, hI, hb⟩
            have HI0 : Hid (IsRam v0 (w.heap.size + 1) rb h4 4 (fun _ => 0) 0) := hI
            have HB0 : Hid (Below w.heap.size w v0) := hb
            clear hI hb
            go_wp2_with fail
            refine ((S1.out rb).out _ HI0.out).mono ?_
            rintro e v1 ⟨rfl, hI, hb⟩
            have HI1 : Hid (IsRam v1 (w.heap.size + 1) rb h4 4 M1 (0 + 2)) := hI
            have HB1 : Hid (Below w.heap.size w v1) := HB0.out.trans (hb.mono (by omega))
            clear hI hb HI0
            go_wp2_with fail
            refine ((CL.out rb).out _ HI1.out).mono ?_
            rintro e v2 ⟨rfl, rfl⟩
            go_wp2_with fail
            refine ((CP.out rb).out _ HI1.out).mono ?_
            rintro e v3 ⟨rfl, hI, hb⟩
            have HI3 : Hid (IsRam v3 (w.heap.size + 1) rb h4 4 M2 (2 + 1)) := hI
            have HB3 : Hid (Below w.heap.size w v3) := HB1.out.trans (hb.mono (by omega))
            clear hI hb HI1
            go_wp2_with fail
            refine ((E1.out rb).out _ HI3.out).mono ?_
            rintro e v4 ⟨rfl, hI, hb⟩
            have HI4 : Hid (IsRam v4 (w.heap.size + 1) rb h4 4 M2 3) := hI
            have HB4 : Hid (Below w.heap.size w v4) := HB3.out.trans (hb.mono (by omega))
            clear hI hb HI3
            go_wp2_with fail
            refine ((E2.out rb).out _ HI4.out).mono ?_
            rintro e v5 ⟨rfl, hI, hb⟩
            have HI5 : Hid (IsRam v5 (w.heap.size + 1) rb h4 4 M2 3) := hI
            have HB5 : Hid (Below w.heap.size w v5) := HB4.out.trans (hb.mono (by omega))
            clear hI hb HI4
            go_wp2_with fail
            refine ((L1.out rb).out _ HI5.out).mono ?_
            rintro e v6 ⟨rfl, hI, hb⟩
            have HI6 : Hid (IsRam v6 (w.heap.size + 1) rb h4 4 M2 3) := hI
            have HB6 : Hid (Below w.heap.size w v6) := HB5.out.trans (hb.mono (by omega))
            clear hI hb HI5
            go_wp2_with fail
            refine ((S2.out rb).out _ HI6.out).mono ?_
            rintro e v7 ⟨rfl, hI, hb⟩
            have HI7 : Hid (IsRam v7 (w.heap.size + 1) rb h4 4 M3 (3 + 2)) := hI
            have HB7 : Hid (Below w.heap.size w v7) := HB6.out.trans (hb.mono (by omega))
            clear hI hb HI6
            go_wp2_with fail
            refine ((ZR.out rb).out _ HI7.out).mono ?_
            rintro e v8 ⟨rfl, hI, hb⟩
            have HI8 : Hid (IsRam v8 (w.heap.size + 1) rb h4 4 M4 5) := hI
            have HB8 : Hid (Below w.heap.size w v8) := HB7.out.trans (hb.mono (by omega))
            clear hI hb HI7
            go_wp2_with fail
            refine ((L2.out rb).out _ HI8.out).mono ?_
            rintro e v9 ⟨rfl, hI, hb⟩
            have HI9 : Hid (IsRam v9 (w.heap.size + 1) rb h4 4 M4 5) := hI
            have HB9 : Hid (Below w.heap.size w v9) := HB8.out.trans (hb.mono (by omega))
            clear hI hb HI8
            go_wp2_with fail
            refine (AW.out _).mono ?_
            rintro e u1 ⟨rfl, hb⟩
            have HIa : Hid (IsRam u1 (w.heap.size + 1) rb h4 4 M4 5) := HI9.out.grown (grown_of_below' hb)
            have HBa : Hid (Below w.heap.size w u1) := HB9.out.trans (hb.mono HB9.out.size)
            clear hb
            go_wp2_with fail
            refine ((CZ.out rb).out _ HIa.out).mono ?_
            rintro e u2 ⟨rfl, rfl⟩
            go_wp2_with fail
            go_ret
            exact ⟨by simp, HBa.out⟩
          · have hq : clr M1 0 = false := by rw [hc]; exact beq_eq_false_iff_ne.2 hx
            have CL : Hid (∀ rb : Nat, Hid _) := fun rb => cl_at (B := w.heap.size + 1) (rb := rb) (has := h4) (F := 4) M1 2 0 false (by omega) (by omega) hq
            obtain rfl : a2 = X := by omega
            have na : (a2 == 0) = false := beq_eq_false_iff_ne.2 hx
            obtain ⟨Y, tY⟩ : ∃ Y, a2.tmod 72057594037927936 = Y := ⟨_, rfl⟩
            rcases Bool.eq_false_or_eq_true (a2 != Y) with hy | hy
            · skip
              clear hc hq l1 l2 cz hX hM1 hM2 hM3 hM4 k1 k2 k3 hX' hx
              go_enter Try.func5, Try.ntmps5
              go_wp2_with fail
              refine (nw.out ()).mono ?_
              rintro e v0 ⟨rb, rfl, hI, hb⟩
              have HI0 : Hid (IsRam v0 (w.heap.size + 1) rb h4 4 (fun _ => 0) 0) := hI
              have HB0 : Hid (Below w.heap.size w v0) := hb
              clear hI hb
              go_wp2_with fail
              refine ((S1.out rb).out _ HI0.out).mono ?_
              rintro e v1 ⟨rfl, hI, hb⟩
              have HI1 : Hid (IsRam v1 (w.heap.size + 1) rb h4 4 M1 (0 + 2)) := hI
              have HB1 : Hid (Below w.heap.size w v1) := HB0.out.trans (hb.mono (by omega))
              clear hI hb HI0
              go_wp2_with fail
              refine ((CL.out rb).out _ HI1.out).mono ?_
              rintro e v2 ⟨rfl, rfl⟩
              go_wp2_with fail
              refine ((CP.out rb).out _ HI1.out).mono ?_
              rintro e v3 ⟨rfl, hI, hb⟩
              have HI3 : Hid (IsRam v3 (w.heap.size + 1) rb h4 4 M2 (2 + 1)) := hI
              have HB3 : Hid (Below w.heap.size w v3) := HB1.out.trans (hb.mono (by omega))
              clear hI hb HI1
              go_wp2_with fail
              refine ((E1.out rb).out _ HI3.out).mono ?_
              rintro e v4 ⟨rfl, hI, hb⟩
              have HI4 : Hid (IsRam v4 (w.heap.size + 1) rb h4 4 M2 3) := hI
              have HB4 : Hid (Below w.heap.size w v4) := HB3.out.trans (hb.mono (by omega))
              clear hI hb HI3
              go_wp2_with fail
              refine ((E2.out rb).out _ HI4.out).mono ?_
              rintro e v5 ⟨rfl, hI, hb⟩
              have HI5 : Hid (IsRam v5 (w.heap.size + 1) rb h4 4 M2 3) := hI
              have HB5 : Hid (Below w.heap.size w v5) := HB4.out.trans (hb.mono (by omega))
              clear hI hb HI4
              go_wp2_with fail
              refine ((L1.out rb).out _ HI5.out).mono ?_
              rintro e v6 ⟨rfl, hI, hb⟩
              have HI6 : Hid (IsRam v6 (w.heap.size + 1) rb h4 4 M2 3) := hI
              have HB6 : Hid (Below w.heap.size w v6) := HB5.out.trans (hb.mono (by omega))
              clear hI hb HI5
              go_wp2_with fail
              refine ((S2.out rb).out _ HI6.out).mono ?_
              rintro e v7 ⟨rfl, hI, hb⟩
              have HI7 : Hid (IsRam v7 (w.heap.size + 1) rb h4 4 M3 (3 + 2)) := hI
              have HB7 : Hid (Below w.heap.size w v7) := HB6.out.trans (hb.mono (by omega))
              clear hI hb HI6
              go_wp2_with fail
              refine ((ZR.out rb).out _ HI7.out).mono ?_
              rintro e v8 ⟨rfl, hI, hb⟩
              have HI8 : Hid (IsRam v8 (w.heap.size + 1) rb h4 4 M4 5) := hI
              have HB8 : Hid (Below w.heap.size w v8) := HB7.out.trans (hb.mono (by omega))
              clear hI hb HI7
              go_wp2_with fail
              refine ((L2.out rb).out _ HI8.out).mono ?_
              rintro e v9 ⟨rfl, hI, hb⟩
              have HI9 : Hid (IsRam v9 (w.heap.size + 1) rb h4 4 M4 5) := hI
              have HB9 : Hid (Below w.heap.size w v9) := HB8.out.trans (hb.mono (by omega))
              clear hI hb HI8
              go_wp2_with fail
              refine (AW.out _).mono ?_
              rintro e u1 ⟨rfl, hb⟩
              have HIa : Hid (IsRam u1 (w.heap.size + 1) rb h4 4 M4 5) := HI9.out.grown (grown_of_below' hb)
              have HBa : Hid (Below w.heap.size w u1) := HB9.out.trans (hb.mono HB9.out.size)
              clear hb
              go_wp2_with fail
              refine ((CZ.out rb).out _ HIa.out).mono ?_
              rintro e u2 ⟨rfl, rfl⟩
              go_wp2_with fail
              go_ret
              exact ⟨by simp, HBa.out⟩
            · skip
              clear hc hq l1 l2 cz hX hM1 hM2 hM3 hM4 k1 k2 k3 hX' hx
              go_enter Try.func5, Try.ntmps5
              go_wp2_with fail
              refine (nw.out ()).mono ?_
              rintro e v0 ⟨rb, rfl, hI, hb⟩
              have HI0 : Hid (IsRam v0 (w.heap.size + 1) rb h4 4 (fun _ => 0) 0) := hI
              have HB0 : Hid (Below w.heap.size w v0) := hb
              clear hI hb
              go_wp2_with fail
              refine ((S1.out rb).out _ HI0.out).mono ?_
              rintro e v1 ⟨rfl, hI, hb⟩
              have HI1 : Hid (IsRam v1 (w.heap.size + 1) rb h4 4 M1 (0 + 2)) := hI
              have HB1 : Hid (Below w.heap.size w v1) := HB0.out.trans (hb.mono (by omega))
              clear hI hb HI0
              go_wp2_with fail
              refine ((CL.out rb).out _ HI1.out).mono ?_
              rintro e v2 ⟨rfl, rfl⟩
              go_wp2_with fail
              refine ((CP.out rb).out _ HI1.out).mono ?_
              rintro e v3 ⟨rfl, hI, hb⟩
              have HI3 : Hid (IsRam v3 (w.heap.size + 1) rb h4 4 M2 (2 + 1)) := hI
              have HB3 : Hid (Below w.heap.size w v3) := HB1.out.trans (hb.mono (by omega))
              clear hI hb HI1
              go_wp2_with fail
              refine ((E1.out rb).out _ HI3.out).mono ?_
              rintro e v4 ⟨rfl, hI, hb⟩
              have HI4 : Hid (IsRam v4 (w.heap.size + 1) rb h4 4 M2 3) := hI
              have HB4 : Hid (Below w.heap.size w v4) := HB3.out.trans (hb.mono (by omega))
              clear hI hb HI3
              go_wp2_with fail
              refine ((E2.out rb).out _ HI4.out).mono ?_
              rintro e v5 ⟨rfl, hI, hb⟩
              have HI5 : Hid (IsRam v5 (w.heap.size + 1) rb h4 4 M2 3) := hI
              have HB5 : Hid (Below w.heap.size w v5) := HB4.out.trans (hb.mono (by omega))
              clear hI hb HI4
              go_wp2_with fail
              refine ((L1.out rb).out _ HI5.out).mono ?_
              rintro e v6 ⟨rfl, hI, hb⟩
              have HI6 : Hid (IsRam v6 (w.heap.size + 1) rb h4 4 M2 3) := hI
              have HB6 : Hid (Below w.heap.size w v6) := HB5.out.trans (hb.mono (by omega))
              clear hI hb HI5
              go_wp2_with fail
              refine ((S2.out rb).out _ HI6.out).mono ?_
              rintro e v7 ⟨rfl, hI, hb⟩
              have HI7 : Hid (IsRam v7 (w.heap.size + 1) rb h4 4 M3 (3 + 2)) := hI
              have HB7 : Hid (Below w.heap.size w v7) := HB6.out.trans (hb.mono (by omega))
              clear hI hb HI6
              go_wp2_with fail
              refine ((ZR.out rb).out _ HI7.out).mono ?_
              rintro e v8 ⟨rfl, hI, hb⟩
              have HI8 : Hid (IsRam v8 (w.heap.size + 1) rb h4 4 M4 5) := hI
              have HB8 : Hid (Below w.heap.size w v8) := HB7.out.trans (hb.mono (by omega))
              clear hI hb HI7
              go_wp2_with fail
              refine ((L2.out rb).out _ HI8.out).mono ?_
              rintro e v9 ⟨rfl, hI, hb⟩
              have HI9 : Hid (IsRam v9 (w.heap.size + 1) rb h4 4 M4 5) := hI
              have HB9 : Hid (Below w.heap.size w v9) := HB8.out.trans (hb.mono (by omega))
              clear hI hb HI8
              go_wp2_with fail
              refine (AW.out _).mono ?_
              rintro e u1 ⟨rfl, hb⟩
              have HIa : Hid (IsRam u1 (w.heap.size + 1) rb h4 4 M4 5) := HI9.out.grown (grown_of_below' hb)
              have HBa : Hid (Below w.heap.size w u1) := HB9.out.trans (hb.mono HB9.out.size)
              clear hb
              go_wp2_with fail
              refine ((CZ.out rb).out _ HIa.out).mono ?_
              rintro e u2 ⟨rfl, rfl⟩
              go_wp2_with fail
              go_ret
              exact ⟨by simp, HBa.out⟩
      · have k1 := chk4_over hs c1 c2 (by omega)
        have k2 := chk4_far hs c1 c2
        have S1 : Hid (∀ rb : Nat, Hid _) := fun rb => se_at (B := w.heap.size + 1) (rb := rb) (has := h4) (F := 4) (fun _ => 0) 0 a0 a1 a2 2 c1 (by omega) k1 (by omega)
        have CL : Hid (∀ rb : Nat, Hid _) := fun rb => cl_at (B := w.heap.size + 1) (rb := rb) (has := h4) (F := 4) (fun _ => 0) 0 0 true (by omega) (by omega) clr_zero
        obtain ⟨M2, hM2⟩ : ∃ M2, mcopy (fun _ => 0) 2 0 = M2 := ⟨_, rfl⟩
        obtain ⟨M3, hM3⟩ : ∃ M3, mset M2 0 8 a3 = M3 := ⟨_, rfl⟩
        obtain ⟨M4, hM4⟩ : ∃ M4, mzero M3 0 = M4 := ⟨_, rfl⟩
        have cz : clr M4 0 = true := by rw [← hM4]; exact clr_mzero M3
        have k3 : chkG h4 0 8 = 0 := chk4_in (by omega) (by omega) (by omega)
        have CP : Hid (∀ rb : Nat, Hid _) := fun rb => by have := cp_at (B := w.heap.size + 1) (rb := rb) (has := h4) (F := 4) (fun _ => 0) 0 2 0 (by omega) (by omega) (by omega) (by omega) (by omega) h4_2 h4_0; rw [hM2] at this; exact this
        have E1 : Hid (∀ rb : Nat, Hid _) := fun rb => ce_at (B := w.heap.size + 1) (rb := rb) (has := h4) (F := 4) M2 1 1 0 (Or.inl h4_1)
        have E2 : Hid (∀ rb : Nat, Hid _) := fun rb => ce_at (B := w.heap.size + 1) (rb := rb) (has := h4) (F := 4) M2 1 0 1 (Or.inr h4_1)
        obtain ⟨A1, hA1⟩ : ∃ A1, ld M2 (8192 + a0) a1.toNat = A1 := ⟨_, rfl⟩
        obtain ⟨A2, hA2⟩ : ∃ A2, ld M4 (8192 + a0) a1.toNat = A2 := ⟨_, rfl⟩
        have L1 : Hid (∀ rb : Nat, Hid _) := fun rb => ld_at (B := w.heap.size + 1) (rb := rb) (has := h4) (F := 4) M2 1 (8192 + a0) a1 A1 (by omega) (by omega) k2 hA1
        have L2 : Hid (∀ rb : Nat, Hid _) := fun rb => ld_at (B := w.heap.size + 1) (rb := rb) (has := h4) (F := 4) M4 3 (8192 + a0) a1 A2 (by omega) (by omega) k2 hA2
        have S2 : Hid (∀ rb : Nat, Hid _) := fun rb => by have := st_at (B := w.heap.size + 1) (rb := rb) (has := h4) (F := 4) M2 1 0 8 a3 (by omega) (by omega) (by omega) k3 y0 y1; rw [hM3] at this; exact this
        have ZR : Hid (∀ rb : Nat, Hid _) := fun rb => by have := zr_at (B := w.heap.size + 1) (rb := rb) (has := h4) (F := 4) M3 3 0 (by omega) (by omega) h4_0; rw [hM4] at this; exact this
        have CZ : Hid (∀ rb : Nat, Hid _) := fun rb => cl_at (B := w.heap.size + 1) (rb := rb) (has := h4) (F := 4) M4 3 0 true (by omega) (by omega) cz
        clear cz hM2 hM3 hM4 k1 k2 k3 hA1 hA2 hs hin
        go_enter Try.func5, Try.ntmps5
        go_wp2_with fail
        refine (nw.out ()).mono ?_
        rintro e v0 ⟨rb, rfl, hI, hb⟩
        have HI0 : Hid (IsRam v0 (w.heap.size + 1) rb h4 4 (fun _ => 0) 0) := hI
        have HB0 : Hid (Below w.heap.size w v0) := hb
        clear hI hb
        go_wp2_with fail
        refine ((S1.out rb).out _ HI0.out).mono ?_
        rintro e v1 ⟨rfl, hI, hb⟩
        have HI1 : Hid (IsRam v1 (w.heap.size + 1) rb h4 4 (fun _ => 0) 0) := hI
        have HB1 : Hid (Below w.heap.size w v1) := HB0.out.trans (hb.mono (by omega))
        clear hI hb HI0
        go_wp2_with fail
        refine ((CL.out rb).out _ HI1.out).mono ?_
        rintro e v2 ⟨rfl, rfl⟩
        go_wp2_with fail
        refine ((CP.out rb).out _ HI1.out).mono ?_
        rintro e v3 ⟨rfl, hI, hb⟩
        have HI3 : Hid (IsRam v3 (w.heap.size + 1) rb h4 4 M2 (0 + 1)) := hI
        have HB3 : Hid (Below w.heap.size w v3) := HB1.out.trans (hb.mono (by omega))
        clear hI hb HI1
        go_wp2_with fail
        refine ((E1.out rb).out _ HI3.out).mono ?_
        rintro e v4 ⟨rfl, hI, hb⟩
        have HI4 : Hid (IsRam v4 (w.heap.size + 1) rb h4 4 M2 1) := hI
        have HB4 : Hid (Below w.heap.size w v4) := HB3.out.trans (hb.mono (by omega))
        clear hI hb HI3
        go_wp2_with fail
        refine ((E2.out rb).out _ HI4.out).mono ?_
        rintro e v5 ⟨rfl, hI, hb⟩
        have HI5 : Hid (IsRam v5 (w.heap.size + 1) rb h4 4 M2 1) := hI
        have HB5 : Hid (Below w.heap.size w v5) := HB4.out.trans (hb.mono (by omega))
        clear hI hb HI4
        go_wp2_with fail
        refine ((L1.out rb).out _ HI5.out).mono ?_
        rintro e v6 ⟨rfl, hI, hb⟩
        have HI6 : Hid (IsRam v6 (w.heap.size + 1) rb h4 4 M2 1) := hI
        have HB6 : Hid (Below w.heap.size w v6) := HB5.out.trans (hb.mono (by omega))
        clear hI hb HI5
        go_wp2_with fail
        refine ((S2.out rb).out _ HI6.out).mono ?_
        rintro e v7 ⟨rfl, hI, hb⟩
        have HI7 : Hid (IsRam v7 (w.heap.size + 1) rb h4 4 M3 (1 + 2)) := hI
        have HB7 : Hid (Below w.heap.size w v7) := HB6.out.trans (hb.mono (by omega))
        clear hI hb HI6
        go_wp2_with fail
        refine ((ZR.out rb).out _ HI7.out).mono ?_
        rintro e v8 ⟨rfl, hI, hb⟩
        have HI8 : Hid (IsRam v8 (w.heap.size + 1) rb h4 4 M4 3) := hI
        have HB8 : Hid (Below w.heap.size w v8) := HB7.out.trans (hb.mono (by omega))
        clear hI hb HI7
        go_wp2_with fail
        refine ((L2.out rb).out _ HI8.out).mono ?_
        rintro e v9 ⟨rfl, hI, hb⟩
        have HI9 : Hid (IsRam v9 (w.heap.size + 1) rb h4 4 M4 3) := hI
        have HB9 : Hid (Below w.heap.size w v9) := HB8.out.trans (hb.mono (by omega))
        clear hI hb HI8
        go_wp2_with fail
        refine (AW.out _).mono ?_
        rintro e u1 ⟨rfl, hb⟩
        have HIa : Hid (IsRam u1 (w.heap.size + 1) rb h4 4 M4 3) := HI9.out.grown (grown_of_below' hb)
        have HBa : Hid (Below w.heap.size w u1) := HB9.out.trans (hb.mono HB9.out.size)
        clear hb
        go_wp2_with fail
        refine ((CZ.out rb).out _ HIa.out).mono ?_
        rintro e u2 ⟨rfl, rfl⟩
        go_wp2_with fail
        go_ret
        exact ⟨rfl, HBa.out⟩
    · have k1 := chk4_bad (a := a0) hs
      have k2 := chk4_bad (a := 8192 + a0) hs
      have S1 : Hid (∀ rb : Nat, Hid _) := fun rb => se_at (B := w.heap.size + 1) (rb := rb) (has := h4) (F := 4) (fun _ => 0) 0 a0 a1 a2 1 c1 (by omega) k1 (by omega)
      have CL : Hid (∀ rb : Nat, Hid _) := fun rb => cl_at (B := w.heap.size + 1) (rb := rb) (has := h4) (F := 4) (fun _ => 0) 0 0 true (by omega) (by omega) clr_zero
      obtain ⟨M2, hM2⟩ : ∃ M2, mcopy (fun _ => 0) 2 0 = M2 := ⟨_, rfl⟩
      obtain ⟨M3, hM3⟩ : ∃ M3, mset M2 0 8 a3 = M3 := ⟨_, rfl⟩
      obtain ⟨M4, hM4⟩ : ∃ M4, mzero M3 0 = M4 := ⟨_, rfl⟩
      have cz : clr M4 0 = true := by rw [← hM4]; exact clr_mzero M3
      have k3 : chkG h4 0 8 = 0 := chk4_in (by omega) (by omega) (by omega)
      have CP : Hid (∀ rb : Nat, Hid _) := fun rb => by have := cp_at (B := w.heap.size + 1) (rb := rb) (has := h4) (F := 4) (fun _ => 0) 0 2 0 (by omega) (by omega) (by omega) (by omega) (by omega) h4_2 h4_0; rw [hM2] at this; exact this
      have E1 : Hid (∀ rb : Nat, Hid _) := fun rb => ce_at (B := w.heap.size + 1) (rb := rb) (has := h4) (F := 4) M2 1 1 0 (Or.inl h4_1)
      have E2 : Hid (∀ rb : Nat, Hid _) := fun rb => ce_at (B := w.heap.size + 1) (rb := rb) (has := h4) (F := 4) M2 1 0 1 (Or.inr h4_1)
      have L1 : Hid (∀ rb : Nat, Hid _) := fun rb => le_at (B := w.heap.size + 1) (rb := rb) (has := h4) (F := 4) M2 1 (8192 + a0) a1 1 (by omega) (by omega) k2 (by omega)
      have L2 : Hid (∀ rb : Nat, Hid _) := fun rb => le_at (B := w.heap.size + 1) (rb := rb) (has := h4) (F := 4) M4 3 (8192 + a0) a1 1 (by omega) (by omega) k2 (by omega)
      have S2 : Hid (∀ rb : Nat, Hid _) := fun rb => by have := st_at (B := w.heap.size + 1) (rb := rb) (has := h4) (F := 4) M2 1 0 8 a3 (by omega) (by omega) (by omega) k3 y0 y1; rw [hM3] at this; exact this
      have ZR : Hid (∀ rb : Nat, Hid _) := fun rb => by have := zr_at (B := w.heap.size + 1) (rb := rb) (has := h4) (F := 4) M3 3 0 (by omega) (by omega) h4_0; rw [hM4] at this; exact this
      have CZ : Hid (∀ rb : Nat, Hid _) := fun rb => cl_at (B := w.heap.size + 1) (rb := rb) (has := h4) (F := 4) M4 3 0 true (by omega) (by omega) cz
      clear cz hM2 hM3 hM4 k1 k2 k3 hs
      go_enter Try.func5, Try.ntmps5
      go_wp2_with fail
      refine (nw.out ()).mono ?_
      rintro e v0 ⟨rb, rfl, hI, hb⟩
      have HI0 : Hid (IsRam v0 (w.heap.size + 1) rb h4 4 (fun _ => 0) 0) := hI
      have HB0 : Hid (Below w.heap.size w v0) := hb
      clear hI hb
      go_wp2_with fail
      refine ((S1.out rb).out _ HI0.out).mono ?_
      rintro e v1 ⟨rfl, hI, hb⟩
      have HI1 : Hid (IsRam v1 (w.heap.size + 1) rb h4 4 (fun _ => 0) 0) := hI
      have HB1 : Hid (Below w.heap.size w v1) := HB0.out.trans (hb.mono (by omega))
      clear hI hb HI0
      go_wp2_with fail
      refine ((CL.out rb).out _ HI1.out).mono ?_
      rintro e v2 ⟨rfl, rfl⟩
      go_wp2_with fail
      refine ((CP.out rb).out _ HI1.out).mono ?_
      rintro e v3 ⟨rfl, hI, hb⟩
      have HI3 : Hid (IsRam v3 (w.heap.size + 1) rb h4 4 M2 (0 + 1)) := hI
      have HB3 : Hid (Below w.heap.size w v3) := HB1.out.trans (hb.mono (by omega))
      clear hI hb HI1
      go_wp2_with fail
      refine ((E1.out rb).out _ HI3.out).mono ?_
      rintro e v4 ⟨rfl, hI, hb⟩
      have HI4 : Hid (IsRam v4 (w.heap.size + 1) rb h4 4 M2 1) := hI
      have HB4 : Hid (Below w.heap.size w v4) := HB3.out.trans (hb.mono (by omega))
      clear hI hb HI3
      go_wp2_with fail
      refine ((E2.out rb).out _ HI4.out).mono ?_
      rintro e v5 ⟨rfl, hI, hb⟩
      have HI5 : Hid (IsRam v5 (w.heap.size + 1) rb h4 4 M2 1) := hI
      have HB5 : Hid (Below w.heap.size w v5) := HB4.out.trans (hb.mono (by omega))
      clear hI hb HI4
      go_wp2_with fail
      refine ((L1.out rb).out _ HI5.out).mono ?_
      rintro e v6 ⟨rfl, hI, hb⟩
      have HI6 : Hid (IsRam v6 (w.heap.size + 1) rb h4 4 M2 1) := hI
      have HB6 : Hid (Below w.heap.size w v6) := HB5.out.trans (hb.mono (by omega))
      clear hI hb HI5
      go_wp2_with fail
      refine ((S2.out rb).out _ HI6.out).mono ?_
      rintro e v7 ⟨rfl, hI, hb⟩
      have HI7 : Hid (IsRam v7 (w.heap.size + 1) rb h4 4 M3 (1 + 2)) := hI
      have HB7 : Hid (Below w.heap.size w v7) := HB6.out.trans (hb.mono (by omega))
      clear hI hb HI6
      go_wp2_with fail
      refine ((ZR.out rb).out _ HI7.out).mono ?_
      rintro e v8 ⟨rfl, hI, hb⟩
      have HI8 : Hid (IsRam v8 (w.heap.size + 1) rb h4 4 M4 3) := hI
      have HB8 : Hid (Below w.heap.size w v8) := HB7.out.trans (hb.mono (by omega))
      clear hI hb HI7
      go_wp2_with fail
      refine ((L2.out rb).out _ HI8.out).mono ?_
      rintro e v9 ⟨rfl, hI, hb⟩
      have HI9 : Hid (IsRam v9 (w.heap.size + 1) rb h4 4 M4 3) := hI
      have HB9 : Hid (Below w.heap.size w v9) := HB8.out.trans (hb.mono (by omega))
      clear hI hb HI8
      go_wp2_with fail
      refine (AW.out _).mono ?_
      rintro e u1 ⟨rfl, hb⟩
      have HIa : Hid (IsRam u1 (w.heap.size + 1) rb h4 4 M4 3) := HI9.out.grown (grown_of_below' hb)
      have HBa : Hid (Below w.heap.size w u1) := HB9.out.trans (hb.mono HB9.out.size)
      clear hb
      go_wp2_with fail
      refine ((CZ.out rb).out _ HIa.out).mono ?_
      rintro e u2 ⟨rfl, rfl⟩
      go_wp2_with fail
      go_ret
      exact ⟨rfl, HBa.out⟩
  · by_cases c0 : a0 < 0
    · clear c
      go_enter Try.func5, Try.ntmps5
      go_wp2_with fail
      refine (AW.out _).mono ?_
      rintro e u1 ⟨rfl, hb⟩
      go_wp2_with fail
      go_ret
      exact ⟨rfl, hb⟩
    · have c1 : 4096 < a0 := by omega
      clear c
      go_enter Try.func5, Try.ntmps5
      go_wp2_with fail
      refine (AW.out _).mono ?_
      rintro e u1 ⟨rfl, hb⟩
      go_wp2_with fail
      go_ret
      exact ⟨rfl, hb⟩

set_option maxRecDepth 100000 in
theorem lifted (os : Os) (started : os.Started) (H : Type) (enc : TypeId × Value → H) :
    ReturnsInHanded {} Try.checked os 5 .any (Rows.ramWholeSpec.pre6 enc Try.prog Try.f5 Rows.ramWholeRow.domain false) (Rows.ramWholeSpec.post enc Try.prog Try.f5 false true false false) := by
  refine returnsInHanded_of_change (C := Try.checked) own started (by kernel_rfl) Try.func5
    (ChangeSpec.witness6 (enc := enc) (C := Try.checked) false ⟨#[], #[.int .i64 0, .int .i64 0, .int .u64 0, .int .u64 0], []⟩ 8 (by kernel_rfl) (by kernel_rfl) (by kernel_rfl) (by kernel_rfl)) ?_
  intro W base args ds gs before hval0 hW hcnd _
  have hval : ∀ (j : Nat) t v, Try.f5.params[j]? = some t → args[j]? = some v → Value.okWide Try.prog W .any base t v := hval0
  have hW' := hW
  obtain ⟨p, q, hA0, hV, rfl, hfz, hnd⟩ := hW
  have hA : DataW.TrodAll enc Try.prog W 0 (fun _ => true) true Try.f5.params.toList args.toList ds p := hA0
  rw [Try.params5] at hA hval
  obtain ⟨v0, vs0, d0, ds0, p0, q0, hargs, rfl, rfl, h0, r0⟩ := trodAll_cons hA
  obtain ⟨v1, vs1, d1, ds1, p1, q1, rfl, rfl, rfl, h1, r1⟩ := trodAll_cons r0
  obtain ⟨v2, vs2, d2, ds2, p2, q2, rfl, rfl, rfl, h2, r2⟩ := trodAll_cons r1
  obtain ⟨v3, vs3, d3, ds3, p3, q3, rfl, rfl, rfl, h3, r3⟩ := trodAll_cons r2
  obtain ⟨rfl, rfl, rfl⟩ := trodAll_nil r3
  obtain rfl : args = #[v0, v1, v2, v3] := by cases args; simp_all
  obtain ⟨rfl, rfl⟩ := trodVars_none hV
  obtain ⟨a0, rfl, rfl, rfl, w0⟩ := open_int Try.underlying3 (hval 0 3 v0 rfl rfl) h0
  obtain ⟨a1, rfl, rfl, rfl, w1⟩ := open_int Try.underlying3 (hval 1 3 v1 rfl rfl) h1
  obtain ⟨a2, rfl, rfl, rfl, w2⟩ := open_int Try.underlying38 (hval 2 38 v2 rfl rfl) h2
  obtain ⟨a3, rfl, rfl, rfl, w3⟩ := open_int Try.underlying38 (hval 3 38 v3 rfl rfl) h3
  clear hA0 hval0
  simp only [List.append_nil] at hW'
  refine (walk a0 a1 a2 a3 w0 w1 w2 w3 W).mono fun e W' ⟨he, hg⟩ => ?_
  subst he
  exact ⟨_, rfl, ⟨_, _, _, [], [], [], hW', (trodAll_cons_mk (shut_bool Try.underlying4 _) trodAll_mk0), (trodAll_cons_mk (shut_int Try.underlying3 w0) (trodAll_cons_mk (shut_int Try.underlying3 w1) (trodAll_cons_mk (shut_int Try.underlying38 w2) (trodAll_cons_mk (shut_int Try.underlying38 w3) trodAll_mk0)))), rfl, hg.frame _, fun h => by cases h⟩⟩

theorem over : Rows.ramWholeRow.holds Try.pinned (OpenSpec.ofChange Rows.ramWholeSpec) :=
  OpenClaim.holds_of_wide 5 Try.f5 rfl rfl rfl rfl rfl rfl rfl ⟨rfl, rfl, rfl, rfl, rfl⟩ rfl rfl rfl rfl rfl (by kernel_rfl) Try.func5 (by kernel_rfl)
    (of_decide_eq_true (by kernel_rfl)) (by unfold Func.isWrapper; first | (rw [if_pos (by decide +kernel)]; kernel_rfl) | (rw [if_neg (by decide +kernel)]; exact ⟨rfl, rfl⟩))
    (fun os started H enc _ => lifted os started H enc)

theorem proved : Rows.RamWholeSaid :=
  over
#print axioms proved
end Go.Proofs.Ytfcdaoheljalfaa.ramWhole
