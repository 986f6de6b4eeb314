/- For any place, operation and two numbers' bits, numbers that were stored in a memory of two frames are loaded, reckoned with and stored again as if they had never lain there; no condition. -/
import Derived.Test.YtpfmkhnogobioacRows
import Derived.WalkKit
import Derived.ProofKit
import Derived.OpenShut
import Derived.Test.YtpfmkhnogobioacAt
import Derived.Test.YtpfmkhnogobioacR10
namespace Go.Proofs.Ytpfmkhnogobioac.demesneNumbers
open Go.ChangeShapes Go.WideShapes Go.ChangeAt Go.RowKit
open FltM
set_option linter.unusedSimpArgs false
set_option linter.unusedVariables false

theorem own : ownKnob Try.prog.godebug = none := by kernel_rfl

theorem cmp_nan {z : Nat} (h : 9218868437227405312 < rg z) : cmpF z z = 2 := by unfold cmpF; rw [if_pos (Or.inl h)]
theorem cmp_same {z : Nat} (h : ¬ 9218868437227405312 < rg z) : cmpF z z = 0 := by unfold cmpF; rw [if_neg (by omega), if_neg (by omega), if_neg (by omega)]

set_option maxHeartbeats 1000000 in
theorem walk (a0 : Int) (a1 : Int) (a2 : Int) (a3 : Int) (w0 : (Lit.int .i64 a0).wf = true) (w1 : (Lit.int .i64 a1).wf = true) (w2 : (Lit.int .u64 a2).wf = true) (w3 : (Lit.int .u64 a3).wf = true) (w : World) :
    Calls Try.prog 6 #[.int .i64 a0, .int .i64 a1, .int .u64 a2, .int .u64 a3] w fun e w' => e = .returned (.bool true) ∧ Below w.heap.size w w' := by
  have u2 : 0 ≤ a2 ∧ a2 < 18446744073709551616 := by simp [Lit.wf, IntKind.min, IntKind.max, IntKind.signed, IntKind.bits] at w2; omega
  have u3 : 0 ≤ a3 ∧ a3 < 18446744073709551616 := by simp [Lit.wf, IntKind.min, IntKind.max, IntKind.signed, IntKind.bits] at w3; omega
  obtain ⟨x0, x1⟩ := u2
  obtain ⟨y0, y1⟩ := u3
  clear w0 w1 w2 w3
  have g1 := from_at 1 (v := 4607182418800017408) (by rw [fromI_one]; rfl)
  have d1 := do_at 4 4607182418800017408 0 (by omega) (by omega) (by omega) (by omega) (x := 9218868437227405312) (t := 2) (z := 0) (by
    have e : doR 4 (4607182418800017408 : Int).toNat (0 : Int).toNat = 9218868437227405312 := awake_R
    rw [e]; rfl) awake_T (doE_ok (by omega) (by omega))
  by_cases c : 0 ≤ a0 ∧ a0 ≤ 1000
  · obtain ⟨c1, c2⟩ := c
    obtain ⟨p, hp⟩ : ∃ p : Int, 8 * a0 = p := ⟨_, rfl⟩
    have p0 : 0 ≤ p := by omega
    have p1 : p ≤ 8000 := by omega
    obtain ⟨z, hz⟩ : ∃ z : Int, ((doR a1 a2.toNat a3.toNat : Nat) : Int) = z := ⟨_, rfl⟩
    obtain ⟨t, ht⟩ : ∃ t : Int, doT a1 a2.toNat a3.toNat = t := ⟨_, rfl⟩
    obtain ⟨er, her⟩ : ∃ t : Int, doE a1 = t := ⟨_, rfl⟩
    have hzl : doR a1 a2.toNat a3.toNat < 18446744073709551616 := doR_lt a1 (by omega) (by omega)
    have z0 : 0 ≤ z := by omega
    have z1 : z < 18446744073709551616 := by omega
    have d2 := do_at a1 a2 a3 x0 x1 y0 y1 hz ht her
    have hmx : (100 : Nat) < maxLen := by unfold maxLen; decide
    obtain ⟨M1, hM1⟩ : ∃ M1, mset (fun _ => 0) p 8 a2 = M1 := ⟨_, rfl⟩
    obtain ⟨M2, hM2⟩ : ∃ M2, mset M1 (p + 8) 8 a3 = M2 := ⟨_, rfl⟩
    obtain ⟨M3, hM3⟩ : ∃ M3, mset M2 (p + 16) 8 z = M3 := ⟨_, rfl⟩
    have l1 : ld M2 p (8 : Int).toNat = a2 := by rw [← hM2, ld_mset_apart M1 (Or.inl (by show p + ((8 : Nat) : Int) ≤ p + 8; omega)), ← hM1]; exact ld_mset8 _ _ _ x0 x1
    have l2 : ld M2 (p + 8) (8 : Int).toNat = a3 := by rw [← hM2]; exact ld_mset8 _ _ _ y0 y1
    have l3 : ld M3 (p + 16) (8 : Int).toNat = z := by rw [← hM3]; exact ld_mset8 _ _ _ z0 z1
    have k1 : chkG (hasF 2) p 8 = 0 := chk_in (by omega) p0 (by omega) (by omega)
    have k2 : chkG (hasF 2) (p + 8) 8 = 0 := chk_in (by omega) (by omega) (by omega) (by omega)
    have k3 : chkG (hasF 2) (p + 16) 8 = 0 := chk_in (by omega) (by omega) (by omega) (by omega)
    have s1 := fun (B rb : Nat) => st_at (B := B) (rb := rb) (F := 2) (fun _ => 0) 0 p 8 a2 (by omega) p0 (by omega) k1 x0 x1
    have s2 := fun (B rb : Nat) => st_at (B := B) (rb := rb) (F := 2) M1 2 (p + 8) 8 a3 (by omega) (by omega) (by omega) k2 y0 y1
    have s3 := fun (B rb : Nat) => st_at (B := B) (rb := rb) (F := 2) M2 4 (p + 16) 8 z (by omega) (by omega) (by omega) k3 z0 z1
    have o1 := fun (B rb : Nat) => ld_at (B := B) (rb := rb) (F := 2) M2 4 p 8 a2 p0 (by omega) k1 l1
    have o2 := fun (B rb : Nat) => ld_at (B := B) (rb := rb) (F := 2) M2 4 (p + 8) 8 a3 (by omega) (by omega) k2 l2
    have o3 := fun (B rb : Nat) => ld_at (B := B) (rb := rb) (F := 2) M3 6 (p + 16) 8 z (by omega) (by omega) k3 l3
    rw [hM1] at s1
    rw [hM2] at s2
    rw [hM3] at s3
    have S1 : Hid (∀ B rb, Hid _) := s1
    have S2 : Hid (∀ B rb, Hid _) := s2
    have S3 : Hid (∀ B rb, Hid _) := s3
    have O1 : Hid (∀ B rb, Hid _) := o1
    have O2 : Hid (∀ B rb, Hid _) := o2
    have O3 : Hid (∀ B rb, Hid _) := o3
    have nw : Hid (∀ w : World, Calls Try.prog 13 #[.int .i64 2, .slice none 0 0] w fun e w' => e = .returned (.tuple #[.pointer (some ⟨w.heap.size + 1, 0, none⟩), .int .i64 0]) ∧
      IsRam w' w.heap.size (w.heap.size + 1) (hasF 2) 2 (fun _ => 0) 0 ∧ Below w.heap.size w w') := fun w => new_nil 2 (by omega) (by omega) w
    have hnil : ∀ (b : Nat) (W : World), (binOp .eql 35 (.pointer (some ⟨b, 0, none⟩)) (.pointer none)).run Try.prog W = .ok (.bool false) W := fun b W => by kernel_rfl
    clear s1 s2 s3 o1 o2 o3 k1 k2 k3 l1 l2 l3 hM1 hM2 hM3 hz ht her hzl
    go_enter Try.func6, Try.ntmps6
    go_wp2_with fail
    refine (g1.out _).mono ?_
    rintro e w' ⟨rfl, rfl⟩
    go_wp2_with fail
    refine (d1.out _).mono ?_
    rintro e w' ⟨rfl, n1, rfl⟩
    go_wp2_with fail
    refine (nw.out _).mono ?_
    rintro e v1 ⟨rfl, hI1, hb1⟩
    have HI1 : Hid (IsRam v1 w'.heap.size (w'.heap.size + 1) (hasF 2) 2 (fun _ => 0) 0) := hI1
    have HB1 : Hid (Below w'.heap.size w' v1) := (below_drewN _ _ n1).trans hb1
    clear hI1 hb1
    go_wp2_with fail
    refine ((S1.out _ _).out _ HI1.out).mono ?_
    rintro e v2 ⟨rfl, hI2, hb2⟩
    have HI2 : Hid (IsRam v2 w'.heap.size (w'.heap.size + 1) (hasF 2) 2 M1 2) := hI2
    have HB2 : Hid (Below w'.heap.size v1 v2) := hb2
    clear hI2 hb2
    go_wp2_with fail
    refine ((S2.out _ _).out _ HI2.out).mono ?_
    rintro e v3 ⟨rfl, hI3, hb3⟩
    have HI3 : Hid (IsRam v3 w'.heap.size (w'.heap.size + 1) (hasF 2) 2 M2 4) := hI3
    have HB3 : Hid (Below w'.heap.size v2 v3) := hb3
    clear hI3 hb3
    go_wp2_with fail
    refine ((O1.out _ _).out _ HI3.out).mono ?_
    rintro e v4 ⟨rfl, hI4, hb4⟩
    have HI4 : Hid (IsRam v4 w'.heap.size (w'.heap.size + 1) (hasF 2) 2 M2 4) := hI4
    have HB4 : Hid (Below w'.heap.size v3 v4) := hb4
    clear hI4 hb4
    go_wp2_with fail
    refine ((O2.out _ _).out _ HI4.out).mono ?_
    rintro e v5 ⟨rfl, hI5, hb5⟩
    have HI5 : Hid (IsRam v5 w'.heap.size (w'.heap.size + 1) (hasF 2) 2 M2 4) := hI5
    have HB5 : Hid (Below w'.heap.size v4 v5) := hb5
    clear hI5 hb5
    go_wp2_with fail
    refine (d2.out _).mono ?_
    rintro e v ⟨rfl, n2, rfl⟩
    go_wp2_with fail
    refine (d2.out _).mono ?_
    rintro e v ⟨rfl, n3, rfl⟩
    go_wp2_with fail
    refine ((S3.out _ _).out _ (HI5.out.grown (grown_drewN0 _ (n2 + n3)))).mono ?_
    rintro e v6 ⟨rfl, hI6, hb6⟩
    have HI6 : Hid (IsRam v6 w'.heap.size (w'.heap.size + 1) (hasF 2) 2 M3 6) := hI6
    have HB6 : Hid (Below w'.heap.size v5 v6) := (below_drewN _ _ (n2 + n3)).trans hb6
    clear hI6 hb6
    go_wp2_with fail
    refine ((O3.out _ _).out _ HI6.out).mono ?_
    rintro e v7 ⟨rfl, hI7, hb7⟩
    have HI7 : Hid (IsRam v7 w'.heap.size (w'.heap.size + 1) (hasF 2) 2 M3 6) := hI7
    have HB7 : Hid (Below w'.heap.size v6 v7) := hb7
    clear hI7 hb7
    have HF : Hid (Below w'.heap.size w' v7) := (((((HB1.out.trans HB2.out).trans HB3.out).trans HB4.out).trans HB5.out).trans HB6.out).trans HB7.out
    clear HB1 HB2 HB3 HB4 HB5 HB6 HB7 HI1 HI2 HI3 HI4 HI5 HI6 HI7 S1 S2 S3 O1 O2 O3
    by_cases hn : 9218868437227405312 < rg z.toNat
    · have q1 := cmp_at z z (cmp_nan hn)
      have q2 := class_at z z0 z1 ((cls_nan _).2 hn)
      clear hn
      go_wp2_with fail
      refine (q1.out _).mono ?_
      rintro e v ⟨rfl, rfl⟩
      go_wp2_with fail
      refine (q2.out _).mono ?_
      rintro e v ⟨rfl, rfl⟩
      go_wp2_with fail
      go_ret
      exact ⟨rfl, HF.out⟩
    · have q1 := cmp_at z z (cmp_same hn)
      clear hn
      go_wp2_with fail
      refine (q1.out _).mono ?_
      rintro e v ⟨rfl, rfl⟩
      go_wp2_with fail
      go_ret
      exact ⟨rfl, HF.out⟩
  · have c' : a0 < 0 ∨ 1000 < a0 := by omega
    clear c
    rcases c' with c | c
    all_goals
      go_enter Try.func6, Try.ntmps6
      go_wp2_with fail
      refine (g1.out _).mono ?_
      rintro e w' ⟨rfl, rfl⟩
      go_wp2_with fail
      refine (d1.out _).mono ?_
      rintro e w' ⟨rfl, n1, rfl⟩
      go_wp2_with fail
      go_ret
      exact ⟨rfl, below_drewN _ _ _⟩

set_option maxRecDepth 100000 in
theorem lifted (os : Os) (started : os.Started) (H : Type) (enc : TypeId × Value → H) :
    ReturnsInHanded {} Try.checked os 6 .any (Rows.demesneNumbersSpec.pre6 enc Try.prog Try.f6 Rows.demesneNumbersRow.domain false) (Rows.demesneNumbersSpec.post enc Try.prog Try.f6 false true false false) := by
  refine returnsInHanded_of_change (C := Try.checked) own started (by kernel_rfl) Try.func6
    (ChangeSpec.witness6 (enc := enc) (C := Try.checked) false ⟨#[], #[.int .i64 0, .int .i64 0, .int .u64 0, .int .u64 0], []⟩ 8 (by kernel_rfl) (by kernel_rfl) (by kernel_rfl) (by kernel_rfl)) ?_
  intro W base args ds gs before hval0 hW hcnd _
  have hval : ∀ (j : Nat) t v, Try.f6.params[j]? = some t → args[j]? = some v → Value.okWide Try.prog W .any base t v := hval0
  have hW' := hW
  obtain ⟨p, q, hA0, hV, rfl, hfz, hnd⟩ := hW
  have hA : DataW.TrodAll enc Try.prog W 0 (fun _ => true) true Try.f6.params.toList args.toList ds p := hA0
  rw [Try.params6] at hA hval
  obtain ⟨v0, vs0, d0, ds0, p0, q0, hargs, rfl, rfl, h0, r0⟩ := trodAll_cons hA
  obtain ⟨v1, vs1, d1, ds1, p1, q1, rfl, rfl, rfl, h1, r1⟩ := trodAll_cons r0
  obtain ⟨v2, vs2, d2, ds2, p2, q2, rfl, rfl, rfl, h2, r2⟩ := trodAll_cons r1
  obtain ⟨v3, vs3, d3, ds3, p3, q3, rfl, rfl, rfl, h3, r3⟩ := trodAll_cons r2
  obtain ⟨rfl, rfl, rfl⟩ := trodAll_nil r3
  obtain rfl : args = #[v0, v1, v2, v3] := by cases args; simp_all
  obtain ⟨rfl, rfl⟩ := trodVars_none hV
  obtain ⟨a0, rfl, rfl, rfl, w0⟩ := open_int Try.underlying3 (hval 0 3 v0 rfl rfl) h0
  obtain ⟨a1, rfl, rfl, rfl, w1⟩ := open_int Try.underlying3 (hval 1 3 v1 rfl rfl) h1
  obtain ⟨a2, rfl, rfl, rfl, w2⟩ := open_int Try.underlying22 (hval 2 22 v2 rfl rfl) h2
  obtain ⟨a3, rfl, rfl, rfl, w3⟩ := open_int Try.underlying22 (hval 3 22 v3 rfl rfl) h3
  clear hA0 hval0
  simp only [List.append_nil] at hW'
  refine (walk a0 a1 a2 a3 w0 w1 w2 w3 W).mono fun e W' ⟨he, hg⟩ => ?_
  subst he
  exact ⟨_, rfl, ⟨_, _, _, [], [], [], hW', (trodAll_cons_mk (shut_bool Try.underlying4 _) trodAll_mk0), (trodAll_cons_mk (shut_int Try.underlying3 w0) (trodAll_cons_mk (shut_int Try.underlying3 w1) (trodAll_cons_mk (shut_int Try.underlying22 w2) (trodAll_cons_mk (shut_int Try.underlying22 w3) trodAll_mk0)))), rfl, hg.frame _, fun h => by cases h⟩⟩

theorem over : Rows.demesneNumbersRow.holds Try.pinned (OpenSpec.ofChange Rows.demesneNumbersSpec) :=
  OpenClaim.holds_of_wide 6 Try.f6 rfl rfl rfl rfl rfl rfl rfl ⟨rfl, rfl, rfl, rfl, rfl⟩ rfl rfl rfl rfl rfl (by kernel_rfl) Try.func6 (by kernel_rfl)
    (of_decide_eq_true (by kernel_rfl)) (by unfold Func.isWrapper; first | (rw [if_pos (by decide +kernel)]; kernel_rfl) | (rw [if_neg (by decide +kernel)]; exact ⟨rfl, rfl⟩))
    (fun os started H enc _ => lifted os started H enc)

theorem proved : Rows.DemesneNumbersSaid :=
  over
#print axioms proved
end Go.Proofs.Ytpfmkhnogobioac.demesneNumbers
