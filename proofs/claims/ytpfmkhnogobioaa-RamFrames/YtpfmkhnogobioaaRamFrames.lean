/- For any place of a frame and any two numbers, a frame of a memory that is zeroed or copied over has no byte of its own left, and the others keep theirs; no condition. -/
import Derived.Test.YtpfmkhnogobioaaRows
import Derived.WalkKit
import Derived.ProofKit
import Derived.OpenShut
import Derived.Test.YtpfmkhnogobioaaR13
namespace Go.Proofs.Ytpfmkhnogobioaa.ramFrames
open Go.ChangeShapes Go.WideShapes Go.ChangeAt Go.RowKit
open Go.Maps
set_option linter.unusedSimpArgs false
set_option linter.unusedVariables false

theorem own : ownKnob Try.prog.godebug = none := by kernel_rfl

theorem ld_congr {M M' : Int → Int} {a b : Int} : ∀ {n : Nat}, (∀ i : Nat, i < n → M' (a + i) = M (b + i)) → ld M' a n = ld M b n
  | 0, _ => rfl
  | n + 1, h => by
    simp only [ld]
    rw [ld_congr (n := n) (fun i hi => h i (by omega)), h n (by omega)]
theorem mset_zero {M : Int → Int} {a m t : Int} (h : M t = 0) : mset M a m 0 t = 0 := by
  unfold mset; split
  · simp
  · exact h
theorem grown_of_below {w w' : World} (h : Below w.heap.size w w') : w.grownBy w' none := ⟨h.os, h.tape, h.output, h.size, fun k hk _ => h.block k hk⟩
theorem hasF_yes {F k : Int} (h0 : 0 ≤ k) (h1 : k < F) : hasF F k = true := by unfold hasF; simp; omega

set_option maxHeartbeats 1000000 in
theorem walk (a0 : Int) (a1 : Int) (a2 : Int) (a3 : Bool) (w0 : (Lit.int .i64 a0).wf = true) (w1 : (Lit.int .u64 a1).wf = true) (w2 : (Lit.int .u64 a2).wf = true) (w : World) :
    Calls Try.prog 8 #[.int .i64 a0, .int .u64 a1, .int .u64 a2, .bool a3] w fun e w' => e = .returned (.bool true) ∧ Below w.heap.size w w' := by
  have u1 : 0 ≤ a1 ∧ a1 < 18446744073709551616 := by simp [Lit.wf, IntKind.min, IntKind.max, IntKind.signed, IntKind.bits] at w1; omega
  have u2 : 0 ≤ a2 ∧ a2 < 18446744073709551616 := by simp [Lit.wf, IntKind.min, IntKind.max, IntKind.signed, IntKind.bits] at w2; omega
  obtain ⟨x0, x1⟩ := u1
  obtain ⟨y0, y1⟩ := u2
  clear w0 w1 w2
  by_cases c : 0 ≤ a0 ∧ a0 ≤ 511
  · obtain ⟨c1, c2⟩ := c
    have hmx : (100 : Nat) < maxLen := by unfold maxLen; decide
    obtain ⟨p, hp⟩ : ∃ p : Int, 8 * a0 = p := ⟨_, rfl⟩
    have p0 : 0 ≤ p := by omega
    have p1 : p ≤ 4088 := by omega
    obtain ⟨s, hs⟩ : ∃ s : Int, IntKind.u64.wrap (a1 + a2) = s := ⟨_, rfl⟩
    have s0 : 0 ≤ s := by rw [← hs, IntKind.wrap_u64]; omega
    have s1 : s < 18446744073709551616 := by rw [← hs, IntKind.wrap_u64]; omega
    obtain ⟨M1, hM1⟩ : ∃ M1, mset (fun _ => 0) p 8 a1 = M1 := ⟨_, rfl⟩
    obtain ⟨M2, hM2⟩ : ∃ M2, mset M1 (4096 + p) 8 a2 = M2 := ⟨_, rfl⟩
    obtain ⟨M3, hM3⟩ : ∃ M3, mset M2 (8192 + p) 8 s = M3 := ⟨_, rfl⟩
    have k1 : chkG (hasF 3) p 8 = 0 := chk_in (by omega) p0 (by omega) (by omega)
    have k2 : chkG (hasF 3) (4096 + p) 8 = 0 := chk_in (by omega) (by omega) (by omega) (by omega)
    have k3 : chkG (hasF 3) (8192 + p) 8 = 0 := chk_in (by omega) (by omega) (by omega) (by omega)
    have l1 : ld M3 p (8 : Int).toNat = a1 := by
      rw [← hM3, ld_mset_apart _ (Or.inl (by show p + ((8 : Nat) : Int) ≤ 8192 + p; omega)), ← hM2, ld_mset_apart _ (Or.inl (by show p + ((8 : Nat) : Int) ≤ 4096 + p; omega)), ← hM1]
      exact ld_mset8 _ _ _ x0 x1
    have l3 : ld M3 (8192 + p) (8 : Int).toNat = s := by rw [← hM3]; exact ld_mset8 _ _ _ s0 s1
    have S1 := st_at (B := w.heap.size) (rb := w.heap.size + 1) (has := hasF 3) (F := 3) (fun _ => 0) 0 p 8 a1 (by omega) p0 (by omega) k1 x0 x1
    have S2 := st_at (B := w.heap.size) (rb := w.heap.size + 1) (has := hasF 3) (F := 3) M1 2 (4096 + p) 8 a2 (by omega) (by omega) (by omega) k2 y0 y1
    have S3 := st_at (B := w.heap.size) (rb := w.heap.size + 1) (has := hasF 3) (F := 3) M2 4 (8192 + p) 8 s (by omega) (by omega) (by omega) k3 s0 s1
    rw [hM1] at S1
    rw [hM2] at S2
    rw [hM3] at S3
    have nw := nw_at 3 (by omega) (by omega)
    have hnil := nil_no
    have high : ∀ i : Nat, i < 4096 → M2 (8192 + i) = 0 := by
      intro i hi
      rw [← hM2]; unfold mset; rw [if_neg (by omega), ← hM1]; unfold mset; rw [if_neg (by omega)]
    cases a3
    · obtain ⟨M4, hM4⟩ : ∃ M4, mzero M3 1 = M4 := ⟨_, rfl⟩
      have f1 : ld M4 p (8 : Int).toNat = a1 := by
        rw [← l1]; refine ld_congr (fun i hi => ?_)
        have hi8 : i < 8 := hi
        rw [← hM4]; unfold mzero; rw [if_neg (by omega)]
      have f3 : ld M4 (8192 + p) (8 : Int).toNat = s := by
        refine Eq.trans (ld_congr (fun i hi => ?_)) l3
        have hi8 : i < 8 := hi
        rw [← hM4]; unfold mzero; rw [if_neg (by omega)]
      have f2 : ld M4 (4096 + p) (8 : Int).toNat = 0 := by
        refine ld_zero (fun i hi => ?_)
        have hi8 : i < 8 := hi
        rw [← hM4]; unfold mzero; rw [if_pos (by omega)]
      have f4 : clr M4 1 = true := by
        unfold clr
        refine decide_eq_true (fun i hi => ?_)
        rw [← hM4]; unfold mzero; rw [if_pos (by omega)]
      have CP := zr_at (B := w.heap.size) (rb := w.heap.size + 1) (has := hasF 3) (F := 3) M3 6 1 (by omega) (by omega) (hasF_yes (by omega) (by omega))
      have O1 := ld_at (B := w.heap.size) (rb := w.heap.size + 1) (has := hasF 3) (F := 3) M4 6 p 8 a1 p0 (by omega) k1 f1
      have O2 := ld_at (B := w.heap.size) (rb := w.heap.size + 1) (has := hasF 3) (F := 3) M4 6 (4096 + p) 8 0 (by omega) (by omega) k2 f2
      have O3 := ld_at (B := w.heap.size) (rb := w.heap.size + 1) (has := hasF 3) (F := 3) M4 6 (8192 + p) 8 s (by omega) (by omega) k3 f3
      have CL := cl_at (B := w.heap.size) (rb := w.heap.size + 1) (has := hasF 3) (F := 3) M4 6 1 true (by omega) (by omega) f4
      rw [hM4] at CP
      clear f1 f2 f3 f4 l1 l3 k1 k2 k3 high hM1 hM2 hM3 hM4 hmx
      go_enter Try.func8, Try.ntmps8
      go_wp2_with fail
      refine (nw.out _).mono ?_
      rintro e v1 ⟨rfl, hI1, hb1⟩
      have HI1 : Hid (IsRam v1 w.heap.size (w.heap.size + 1) (hasF 3) 3 (fun _ => 0) 0) := hI1
      have HB1 : Hid (Below w.heap.size w v1) := hb1
      clear hI1 hb1
      go_wp2_with fail
      refine (S1.out _ HI1.out).mono ?_
      rintro e v2 ⟨rfl, hI2, hb2⟩
      have HI2 : Hid (IsRam v2 w.heap.size (w.heap.size + 1) (hasF 3) 3 M1 2) := hI2
      have HB2 : Hid (Below w.heap.size v1 v2) := hb2
      clear hI2 hb2
      go_wp2_with fail
      refine (S2.out _ HI2.out).mono ?_
      rintro e v3 ⟨rfl, hI3, hb3⟩
      have HI3 : Hid (IsRam v3 w.heap.size (w.heap.size + 1) (hasF 3) 3 M2 4) := hI3
      have HB3 : Hid (Below w.heap.size v2 v3) := hb3
      clear hI3 hb3
      go_wp2_with fail
      refine (S3.out _ HI3.out).mono ?_
      rintro e v4 ⟨rfl, hI4, hb4⟩
      have HI4 : Hid (IsRam v4 w.heap.size (w.heap.size + 1) (hasF 3) 3 M3 6) := hI4
      have HB4 : Hid (Below w.heap.size v3 v4) := hb4
      clear hI4 hb4
      go_wp2_with fail
      refine (CP.out _ HI4.out).mono ?_
      rintro e v5 ⟨rfl, hI5, hb5⟩
      have HI5 : Hid (IsRam v5 w.heap.size (w.heap.size + 1) (hasF 3) 3 M4 6) := hI5
      have HB5 : Hid (Below w.heap.size v4 v5) := hb5
      clear hI5 hb5
      go_wp2_with fail
      refine (O1.out _ HI5.out).mono ?_
      rintro e v6 ⟨rfl, hI6, hb6⟩
      have HI6 : Hid (IsRam v6 w.heap.size (w.heap.size + 1) (hasF 3) 3 M4 6) := hI6
      have HB6 : Hid (Below w.heap.size v5 v6) := hb6
      clear hI6 hb6
      go_wp2_with fail
      refine (O2.out _ HI6.out).mono ?_
      rintro e v7 ⟨rfl, hI7, hb7⟩
      have HI7 : Hid (IsRam v7 w.heap.size (w.heap.size + 1) (hasF 3) 3 M4 6) := hI7
      have HB7 : Hid (Below w.heap.size v6 v7) := hb7
      clear hI7 hb7
      go_wp2_with fail
      refine (O3.out _ HI7.out).mono ?_
      rintro e v8 ⟨rfl, hI8, hb8⟩
      have HI8 : Hid (IsRam v8 w.heap.size (w.heap.size + 1) (hasF 3) 3 M4 6) := hI8
      have HB8 : Hid (Below w.heap.size v7 v8) := hb8
      clear hI8 hb8
      have HC : Hid (Below w.heap.size w v8) := ((((((HB1.out.trans HB2.out).trans HB3.out).trans HB4.out).trans HB5.out).trans HB6.out).trans HB7.out).trans HB8.out
      clear HB1 HB2 HB3 HB4 HB5 HB6 HB7 HB8 HI1 HI2 HI3 HI4 HI5 HI6 HI7 S1 S2 S3 O1 O2 O3 CP
      go_wp2_with fail
      refine (awake_any _).mono ?_
      rintro e v9 ⟨rfl, hb9⟩
      have HF : Hid (Below w.heap.size w v9) := HC.out.trans (hb9.mono HI8.out.size)
      have HI9 : Hid (IsRam v9 w.heap.size (w.heap.size + 1) (hasF 3) 3 M4 6) := HI8.out.grown (grown_of_below hb9)
      clear hb9 HI8
      go_wp2_with fail
      refine (CL.out _ HI9.out).mono ?_
      rintro e v ⟨rfl, rfl⟩
      go_wp2_with fail
      go_ret
      exact ⟨rfl, HF.out⟩
    · obtain ⟨M4, hM4⟩ : ∃ M4, mcopy M3 1 2 = M4 := ⟨_, rfl⟩
      have f1 : ld M4 p (8 : Int).toNat = a1 := by
        rw [← l1]; refine ld_congr (fun i hi => ?_)
        have hi8 : i < 8 := hi
        rw [← hM4]; unfold mcopy; rw [if_neg (by omega)]
      have f3 : ld M4 (8192 + p) (8 : Int).toNat = s := by
        refine Eq.trans (ld_congr (fun i hi => ?_)) l3
        have hi8 : i < 8 := hi
        rw [← hM4]; unfold mcopy; rw [if_neg (by omega)]
      have f2 : ld M4 (4096 + p) (8 : Int).toNat = s := by
        refine Eq.trans (ld_congr (fun i hi => ?_)) l3
        have hi8 : i < 8 := hi
        rw [← hM4]; unfold mcopy; rw [if_pos (by omega), show (4096 : Int) + p + i - 1 * 4096 + 2 * 4096 = 8192 + p + i by omega]
      have f4 : clr M4 1 = (s == 0) := by
        unfold clr
        rw [Bool.eq_iff_iff, decide_eq_true_iff, beq_iff_eq]
        have hin : ∀ i : Nat, i < 4096 → M4 (1 * 4096 + i) = M3 (8192 + i) := by
          intro i hi; rw [← hM4]; unfold mcopy; rw [if_pos (by omega), show (1 : Int) * 4096 + i - 1 * 4096 + 2 * 4096 = 8192 + i by omega]
        constructor
        · intro h
          rw [← l3]; refine ld_zero (fun i hi => ?_)
          have hi8 : i < 8 := hi
          have := hin (p.toNat + i) (by omega)
          rw [h (p.toNat + i) (by omega)] at this
          rw [show (8192 : Int) + p + i = 8192 + ((p.toNat + i : Nat) : Int) by omega]; exact this.symm
        · intro h i hi
          rw [hin i hi, ← hM3, h]; exact mset_zero (high i hi)
      have CP := cp_at (B := w.heap.size) (rb := w.heap.size + 1) (has := hasF 3) (F := 3) M3 6 1 2 (by omega) (by omega) (by omega) (by omega) (by omega) (hasF_yes (by omega) (by omega)) (hasF_yes (by omega) (by omega))
      have O1 := ld_at (B := w.heap.size) (rb := w.heap.size + 1) (has := hasF 3) (F := 3) M4 7 p 8 a1 p0 (by omega) k1 f1
      have O2 := ld_at (B := w.heap.size) (rb := w.heap.size + 1) (has := hasF 3) (F := 3) M4 7 (4096 + p) 8 s (by omega) (by omega) k2 f2
      have O3 := ld_at (B := w.heap.size) (rb := w.heap.size + 1) (has := hasF 3) (F := 3) M4 7 (8192 + p) 8 s (by omega) (by omega) k3 f3
      have CL := cl_at (B := w.heap.size) (rb := w.heap.size + 1) (has := hasF 3) (F := 3) M4 7 1 (s == 0) (by omega) (by omega) f4
      rw [hM4] at CP
      clear f1 f2 f3 f4 l1 l3 k1 k2 k3 high hM1 hM2 hM3 hM4 hmx
      go_enter Try.func8, Try.ntmps8
      go_wp2_with fail
      refine (nw.out _).mono ?_
      rintro e v1 ⟨rfl, hI1, hb1⟩
      have HI1 : Hid (IsRam v1 w.heap.size (w.heap.size + 1) (hasF 3) 3 (fun _ => 0) 0) := hI1
      have HB1 : Hid (Below w.heap.size w v1) := hb1
      clear hI1 hb1
      go_wp2_with fail
      refine (S1.out _ HI1.out).mono ?_
      rintro e v2 ⟨rfl, hI2, hb2⟩
      have HI2 : Hid (IsRam v2 w.heap.size (w.heap.size + 1) (hasF 3) 3 M1 2) := hI2
      have HB2 : Hid (Below w.heap.size v1 v2) := hb2
      clear hI2 hb2
      go_wp2_with fail
      refine (S2.out _ HI2.out).mono ?_
      rintro e v3 ⟨rfl, hI3, hb3⟩
      have HI3 : Hid (IsRam v3 w.heap.size (w.heap.size + 1) (hasF 3) 3 M2 4) := hI3
      have HB3 : Hid (Below w.heap.size v2 v3) := hb3
      clear hI3 hb3
      go_wp2_with fail
      refine (S3.out _ HI3.out).mono ?_
      rintro e v4 ⟨rfl, hI4, hb4⟩
      have HI4 : Hid (IsRam v4 w.heap.size (w.heap.size + 1) (hasF 3) 3 M3 6) := hI4
      have HB4 : Hid (Below w.heap.size v3 v4) := hb4
      clear hI4 hb4
      go_wp2_with fail
      refine (CP.out _ HI4.out).mono ?_
      rintro e v5 ⟨rfl, hI5, hb5⟩
      have HI5 : Hid (IsRam v5 w.heap.size (w.heap.size + 1) (hasF 3) 3 M4 7) := hI5
      have HB5 : Hid (Below w.heap.size v4 v5) := hb5
      clear hI5 hb5
      go_wp2_with fail
      refine (O1.out _ HI5.out).mono ?_
      rintro e v6 ⟨rfl, hI6, hb6⟩
      have HI6 : Hid (IsRam v6 w.heap.size (w.heap.size + 1) (hasF 3) 3 M4 7) := hI6
      have HB6 : Hid (Below w.heap.size v5 v6) := hb6
      clear hI6 hb6
      go_wp2_with fail
      refine (O2.out _ HI6.out).mono ?_
      rintro e v7 ⟨rfl, hI7, hb7⟩
      have HI7 : Hid (IsRam v7 w.heap.size (w.heap.size + 1) (hasF 3) 3 M4 7) := hI7
      have HB7 : Hid (Below w.heap.size v6 v7) := hb7
      clear hI7 hb7
      go_wp2_with fail
      refine (O3.out _ HI7.out).mono ?_
      rintro e v8 ⟨rfl, hI8, hb8⟩
      have HI8 : Hid (IsRam v8 w.heap.size (w.heap.size + 1) (hasF 3) 3 M4 7) := hI8
      have HB8 : Hid (Below w.heap.size v7 v8) := hb8
      clear hI8 hb8
      have HC : Hid (Below w.heap.size w v8) := ((((((HB1.out.trans HB2.out).trans HB3.out).trans HB4.out).trans HB5.out).trans HB6.out).trans HB7.out).trans HB8.out
      clear HB1 HB2 HB3 HB4 HB5 HB6 HB7 HB8 HI1 HI2 HI3 HI4 HI5 HI6 HI7 S1 S2 S3 O1 O2 O3 CP
      go_wp2_with fail
      refine (awake_any _).mono ?_
      rintro e v9 ⟨rfl, hb9⟩
      have HF : Hid (Below w.heap.size w v9) := HC.out.trans (hb9.mono HI8.out.size)
      have HI9 : Hid (IsRam v9 w.heap.size (w.heap.size + 1) (hasF 3) 3 M4 7) := HI8.out.grown (grown_of_below hb9)
      clear hb9 HI8
      go_wp2_with fail
      refine (CL.out _ HI9.out).mono ?_
      rintro e v ⟨rfl, rfl⟩
      go_wp2_with fail
      go_ret
      exact ⟨rfl, HF.out⟩
  · have c' : a0 < 0 ∨ 511 < a0 := by omega
    clear c
    rcases c' with c | c
    all_goals
      go_enter Try.func8, Try.ntmps8
      go_wp2_with fail
      refine (awake_any _).mono ?_
      rintro e v9 ⟨rfl, hb9⟩
      have HF : Hid (Below w.heap.size w v9) := hb9
      clear hb9
      go_wp2_with fail
      go_ret
      exact ⟨rfl, HF.out⟩

set_option maxRecDepth 100000 in
theorem lifted (os : Os) (started : os.Started) (H : Type) (enc : TypeId × Value → H) :
    ReturnsInHanded {} Try.checked os 8 .any (Rows.ramFramesSpec.pre6 enc Try.prog Try.f8 Rows.ramFramesRow.domain false) (Rows.ramFramesSpec.post enc Try.prog Try.f8 false true false false) := by
  refine returnsInHanded_of_change (C := Try.checked) own started (by kernel_rfl) Try.func8
    (ChangeSpec.witness6 (enc := enc) (C := Try.checked) false ⟨#[], #[.int .i64 0, .int .u64 0, .int .u64 0, .bool false], []⟩ 8 (by kernel_rfl) (by kernel_rfl) (by kernel_rfl) (by kernel_rfl)) ?_
  intro W base args ds gs before hval0 hW hcnd _
  have hval : ∀ (j : Nat) t v, Try.f8.params[j]? = some t → args[j]? = some v → Value.okWide Try.prog W .any base t v := hval0
  have hW' := hW
  obtain ⟨p, q, hA0, hV, rfl, hfz, hnd⟩ := hW
  have hA : DataW.TrodAll enc Try.prog W 0 (fun _ => true) true Try.f8.params.toList args.toList ds p := hA0
  rw [Try.params8] at hA hval
  obtain ⟨v0, vs0, d0, ds0, p0, q0, hargs, rfl, rfl, h0, r0⟩ := trodAll_cons hA
  obtain ⟨v1, vs1, d1, ds1, p1, q1, rfl, rfl, rfl, h1, r1⟩ := trodAll_cons r0
  obtain ⟨v2, vs2, d2, ds2, p2, q2, rfl, rfl, rfl, h2, r2⟩ := trodAll_cons r1
  obtain ⟨v3, vs3, d3, ds3, p3, q3, rfl, rfl, rfl, h3, r3⟩ := trodAll_cons r2
  obtain ⟨rfl, rfl, rfl⟩ := trodAll_nil r3
  obtain rfl : args = #[v0, v1, v2, v3] := by cases args; simp_all
  obtain ⟨rfl, rfl⟩ := trodVars_none hV
  obtain ⟨a0, rfl, rfl, rfl, w0⟩ := open_int Try.underlying3 (hval 0 3 v0 rfl rfl) h0
  obtain ⟨a1, rfl, rfl, rfl, w1⟩ := open_int Try.underlying38 (hval 1 38 v1 rfl rfl) h1
  obtain ⟨a2, rfl, rfl, rfl, w2⟩ := open_int Try.underlying38 (hval 2 38 v2 rfl rfl) h2
  obtain ⟨a3, rfl, rfl, rfl⟩ := open_bool Try.underlying4 (hval 3 4 v3 rfl rfl) h3
  clear hA0 hval0
  simp only [List.append_nil] at hW'
  refine (walk a0 a1 a2 a3 w0 w1 w2 W).mono fun e W' ⟨he, hg⟩ => ?_
  subst he
  exact ⟨_, rfl, ⟨_, _, _, [], [], [], hW', (trodAll_cons_mk (shut_bool Try.underlying4 _) trodAll_mk0), (trodAll_cons_mk (shut_int Try.underlying3 w0) (trodAll_cons_mk (shut_int Try.underlying38 w1) (trodAll_cons_mk (shut_int Try.underlying38 w2) (trodAll_cons_mk (shut_bool Try.underlying4 _) trodAll_mk0)))), rfl, hg.frame _, fun h => by cases h⟩⟩

theorem over : Rows.ramFramesRow.holds Try.pinned (OpenSpec.ofChange Rows.ramFramesSpec) :=
  OpenClaim.holds_of_wide 8 Try.f8 rfl rfl rfl rfl rfl rfl rfl ⟨rfl, rfl, rfl, rfl, rfl⟩ rfl rfl rfl rfl rfl (by kernel_rfl) Try.func8 (by kernel_rfl)
    (of_decide_eq_true (by kernel_rfl)) (by unfold Func.isWrapper; first | (rw [if_pos (by decide +kernel)]; kernel_rfl) | (rw [if_neg (by decide +kernel)]; exact ⟨rfl, rfl⟩))
    (fun os started H enc _ => lifted os started H enc)

theorem proved : Rows.RamFramesSaid :=
  over
#print axioms proved
end Go.Proofs.Ytpfmkhnogobioaa.ramFrames
