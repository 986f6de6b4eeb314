/- For any three numbers' bits, flt.Compare puts those that are no NaN into one order, and flt.Do's lesser and greater of two are these two, the lesser not above the greater; no condition. -/
import Derived.Test.YtpfmkhnogobioacRows
import Derived.WalkKit
import Derived.ProofKit
import Derived.OpenShut
import Derived.Test.YtpfmkhnogobioacAt
namespace Go.Proofs.Ytpfmkhnogobioac.fltRanks
open Go.ChangeShapes Go.WideShapes Go.ChangeAt Go.RowKit
open FltM
set_option linter.unusedSimpArgs false
set_option linter.unusedVariables false

theorem own : ownKnob Try.prog.godebug = none := by kernel_rfl

theorem cmp_of {a b : Nat} (n1 : ¬ 9218868437227405312 < rg a) (n2 : ¬ 9218868437227405312 < rg b) {v : Int} (h : v = -1 ∧ key a < key b ∨ v = 1 ∧ key b < key a ∨ v = 0 ∧ key a = key b) : cmpF a b = v := by
  unfold cmpF; rw [if_neg (by omega)]
  rcases h with ⟨rfl, h⟩ | ⟨rfl, h⟩ | ⟨rfl, h⟩
  · rw [if_pos h]
  · rw [if_neg (by omega), if_pos h]
  · rw [if_neg (by omega), if_neg (by omega)]
theorem tells_same {op : Int} {a b r : Nat} (n1 : ¬ 9218868437227405312 < rg a) (n2 : ¬ 9218868437227405312 < rg b) (ho : op ≠ 4) (hr : r = a ∨ r = b) : tells op a b r = 0 := by
  have s1 : sigs a = false := by unfold sigs; rw [decide_eq_false n1]; rfl
  have s2 : sigs b = false := by unfold sigs; rw [decide_eq_false n2]; rfl
  have c1 : ¬ cls a = 4 := fun k => n1 ((cls_nan a).1 k)
  have c2 : ¬ cls b = 4 := fun k => n2 ((cls_nan b).1 k)
  unfold tells
  rw [if_neg (by simp [s1, s2]), if_neg (by omega)]
  rcases hr with rfl | rfl
  · rw [if_neg c1, if_neg (fun k => ho k.1), if_neg (fun k => k.2.1 k.1)]
  · rw [if_neg c2, if_neg (fun k => ho k.1), if_neg (fun k => k.2.2 k.1)]
theorem doR_mm {op : Int} {a b : Nat} (n1 : ¬ 9218868437227405312 < rg a) (n2 : ¬ 9218868437227405312 < rg b) (ho : op = 5 ∨ op = 6) : doR op a b = if op = 5 then minF a b else maxF a b := by
  unfold doR reck
  rcases ho with rfl | rfl
  · rw [if_neg (by omega), if_neg (by omega), if_neg (by omega), if_neg (by omega), if_neg (by omega), if_neg (by omega), if_neg (by omega), if_neg (by omega), if_pos rfl]
  · rw [if_neg (by omega), if_neg (by omega), if_neg (by omega), if_neg (by omega), if_neg (by omega), if_neg (by omega), if_neg (by omega), if_neg (by omega), if_neg (by omega)]
theorem reck_mm {op : Int} {a b : Nat} (n1 : ¬ 9218868437227405312 < rg a) (n2 : ¬ 9218868437227405312 < rg b) (ho : op = 5 ∨ op = 6) : reck op a b = if op = 5 then minF a b else maxF a b := by
  rw [← doR_mm n1 n2 ho]; unfold doR; rw [if_neg (by omega), if_neg (by omega), if_neg (by omega)]
theorem doT_mm {op : Int} {a b : Nat} (n1 : ¬ 9218868437227405312 < rg a) (n2 : ¬ 9218868437227405312 < rg b) (ho : op = 5 ∨ op = 6) : doT op a b = 0 := by
  unfold doT; rw [if_neg (by omega)]
  refine tells_same n1 n2 (by omega) ?_
  rw [reck_mm n1 n2 ho]
  unfold minF maxF
  repeat' split
  all_goals simp

set_option maxHeartbeats 1000000 in
theorem walk (a0 : Int) (a1 : Int) (a2 : Int) (w0 : (Lit.int .u64 a0).wf = true) (w1 : (Lit.int .u64 a1).wf = true) (w2 : (Lit.int .u64 a2).wf = true) (w : World) :
    Calls Try.prog 3 #[.int .u64 a0, .int .u64 a1, .int .u64 a2] w fun e w' => e = .returned (.bool true) ∧ Grown w w' := by
  have u0 : 0 ≤ a0 ∧ a0 < 18446744073709551616 := by simp [Lit.wf, IntKind.min, IntKind.max, IntKind.signed, IntKind.bits] at w0; omega
  obtain ⟨p0, q0⟩ := u0
  have u1 : 0 ≤ a1 ∧ a1 < 18446744073709551616 := by simp [Lit.wf, IntKind.min, IntKind.max, IntKind.signed, IntKind.bits] at w1; omega
  obtain ⟨p1, q1⟩ := u1
  have u2 : 0 ≤ a2 ∧ a2 < 18446744073709551616 := by simp [Lit.wf, IntKind.min, IntKind.max, IntKind.signed, IntKind.bits] at w2; omega
  obtain ⟨p2, q2⟩ := u2
  clear w0 w1 w2
  by_cases n0 : 9218868437227405312 < rg a0.toNat
  · have k0 := class_at a0 p0 q0 ((cls_nan _).2 n0)
    clear n0
    go_enter Try.func3, Try.ntmps3
    go_wp2_with fail
    refine (k0.out _).mono ?_
    rintro e w' ⟨rfl, rfl⟩
    go_wp2_with fail
    refine (awake_any _).mono ?_
    rintro e w' ⟨rfl, na, rfl⟩
    go_wp2_with fail
    go_ret
    exact ⟨rfl, grown_drewN (Grown.refl _) _⟩
  obtain ⟨v0, hv0⟩ : ∃ v, cls a0.toNat = v := ⟨_, rfl⟩
  have z0 : (v0 == 4) = false := by rw [← hv0]; exact cls_no n0
  have k0 := class_at a0 p0 q0 hv0
  by_cases n1 : 9218868437227405312 < rg a1.toNat
  · have k1 := class_at a1 p1 q1 ((cls_nan _).2 n1)
    clear n0 n1 hv0
    go_enter Try.func3, Try.ntmps3
    go_wp2_with fail
    refine (k0.out _).mono ?_
    rintro e w' ⟨rfl, rfl⟩
    go_wp2_with fail
    refine (k1.out _).mono ?_
    rintro e w' ⟨rfl, rfl⟩
    go_wp2_with fail
    refine (awake_any _).mono ?_
    rintro e w' ⟨rfl, na, rfl⟩
    go_wp2_with fail
    go_ret
    exact ⟨rfl, grown_drewN (Grown.refl _) _⟩
  obtain ⟨v1, hv1⟩ : ∃ v, cls a1.toNat = v := ⟨_, rfl⟩
  have z1 : (v1 == 4) = false := by rw [← hv1]; exact cls_no n1
  have k1 := class_at a1 p1 q1 hv1
  by_cases n2 : 9218868437227405312 < rg a2.toNat
  · have k2 := class_at a2 p2 q2 ((cls_nan _).2 n2)
    clear n0 n1 n2 hv0 hv1
    go_enter Try.func3, Try.ntmps3
    go_wp2_with fail
    refine (k0.out _).mono ?_
    rintro e w' ⟨rfl, rfl⟩
    go_wp2_with fail
    refine (k1.out _).mono ?_
    rintro e w' ⟨rfl, rfl⟩
    go_wp2_with fail
    refine (k2.out _).mono ?_
    rintro e w' ⟨rfl, rfl⟩
    go_wp2_with fail
    refine (awake_any _).mono ?_
    rintro e w' ⟨rfl, na, rfl⟩
    go_wp2_with fail
    go_ret
    exact ⟨rfl, grown_drewN (Grown.refl _) _⟩
  obtain ⟨v2, hv2⟩ : ∃ v, cls a2.toNat = v := ⟨_, rfl⟩
  have z2 : (v2 == 4) = false := by rw [← hv2]; exact cls_no n2
  have k2 := class_at a2 p2 q2 hv2
  clear hv0 hv1 hv2
  have hR5 := doR_mm n0 n1 (op := 5) (Or.inl rfl)
  have hR6 := doR_mm n0 n1 (op := 6) (Or.inr rfl)
  rw [if_pos rfl] at hR5
  rw [if_neg (by omega)] at hR6
  have i0 : ((a0.toNat : Nat) : Int) = a0 := Int.toNat_of_nonneg p0
  have i1 : ((a1.toNat : Nat) : Int) = a1 := Int.toNat_of_nonneg p1
  have t5 := doT_mm n0 n1 (op := 5) (Or.inl rfl)
  have t6 := doT_mm n0 n1 (op := 6) (Or.inr rfl)
  by_cases c0 : key a0.toNat < key a1.toNat
  · skip
    have hne : ¬ a0 = a1 := fun k => by rw [k] at c0; omega
    have e1 : (a0 == a1) = false := beq_eq_false_iff_ne.2 hne
    have e2 : (a1 == a0) = false := beq_eq_false_iff_ne.2 (fun k => hne k.symm)
    have dlo := do_at 5 a0 a1 p0 q0 p1 q1 (x := a0) (t := 0) (z := 0) (by rw [hR5]; unfold minF; rw [if_pos c0, i0]) t5 (doE_ok (by omega) (by omega))
    have dhi := do_at 6 a0 a1 p0 q0 p1 q1 (x := a1) (t := 0) (z := 0) (by rw [hR6]; unfold maxF; rw [if_pos c0, i1]) t6 (doE_ok (by omega) (by omega))
    have cab := cmp_at a0 a1 (v := -1) (cmp_of n0 n1 (by omega))
    have cba := cmp_at a1 a0 (v := 1) (cmp_of n1 n0 (by omega))
    have clh := cmp_at a0 a1 (v := -1) (cmp_of n0 n1 (by omega))
    by_cases c2 : key a2.toNat < key a1.toNat
    · skip
      have cbc := cmp_at a1 a2 (v := 1) (cmp_of n1 n2 (by omega))
      clear n0 n1 n2 hR5 hR6 i0 i1 t5 t6 c2 c0 hne
      go_enter Try.func3, Try.ntmps3
      go_wp2_with fail
      refine (k0.out _).mono ?_
      rintro e w' ⟨rfl, rfl⟩
      go_wp2_with fail
      refine (k1.out _).mono ?_
      rintro e w' ⟨rfl, rfl⟩
      go_wp2_with fail
      refine (k2.out _).mono ?_
      rintro e w' ⟨rfl, rfl⟩
      go_wp2_with fail
      refine (cab.out _).mono ?_
      rintro e w' ⟨rfl, rfl⟩
      go_wp2_with fail
      refine (cbc.out _).mono ?_
      rintro e w' ⟨rfl, rfl⟩
      go_wp2_with fail
      refine (cab.out _).mono ?_
      rintro e w' ⟨rfl, rfl⟩
      go_wp2_with fail
      refine (cba.out _).mono ?_
      rintro e w' ⟨rfl, rfl⟩
      go_wp2_with fail
      refine (dlo.out _).mono ?_
      rintro e w' ⟨rfl, ndlo, rfl⟩
      go_wp2_with fail
      refine (dhi.out _).mono ?_
      rintro e w' ⟨rfl, ndhi, rfl⟩
      go_wp2_with fail
      refine (awake_any _).mono ?_
      rintro e w' ⟨rfl, na, rfl⟩
      go_wp2_with fail
      refine (clh.out _).mono ?_
      rintro e w' ⟨rfl, rfl⟩
      go_wp2_with fail
      go_ret
      exact ⟨rfl, grown_drewN (Grown.refl _) _⟩
    by_cases c3 : key a1.toNat < key a2.toNat
    · skip
      have cbc := cmp_at a1 a2 (v := -1) (cmp_of n1 n2 (by omega))
      have cac := cmp_at a0 a2 (v := -1) (cmp_of n0 n2 (by omega))
      clear n0 n1 n2 hR5 hR6 i0 i1 t5 t6 c2 c3 c0 hne
      go_enter Try.func3, Try.ntmps3
      go_wp2_with fail
      refine (k0.out _).mono ?_
      rintro e w' ⟨rfl, rfl⟩
      go_wp2_with fail
      refine (k1.out _).mono ?_
      rintro e w' ⟨rfl, rfl⟩
      go_wp2_with fail
      refine (k2.out _).mono ?_
      rintro e w' ⟨rfl, rfl⟩
      go_wp2_with fail
      refine (cab.out _).mono ?_
      rintro e w' ⟨rfl, rfl⟩
      go_wp2_with fail
      refine (cbc.out _).mono ?_
      rintro e w' ⟨rfl, rfl⟩
      go_wp2_with fail
      refine (cac.out _).mono ?_
      rintro e w' ⟨rfl, rfl⟩
      go_wp2_with fail
      refine (cab.out _).mono ?_
      rintro e w' ⟨rfl, rfl⟩
      go_wp2_with fail
      refine (cba.out _).mono ?_
      rintro e w' ⟨rfl, rfl⟩
      go_wp2_with fail
      refine (dlo.out _).mono ?_
      rintro e w' ⟨rfl, ndlo, rfl⟩
      go_wp2_with fail
      refine (dhi.out _).mono ?_
      rintro e w' ⟨rfl, ndhi, rfl⟩
      go_wp2_with fail
      refine (awake_any _).mono ?_
      rintro e w' ⟨rfl, na, rfl⟩
      go_wp2_with fail
      refine (clh.out _).mono ?_
      rintro e w' ⟨rfl, rfl⟩
      go_wp2_with fail
      go_ret
      exact ⟨rfl, grown_drewN (Grown.refl _) _⟩
    have cbc := cmp_at a1 a2 (v := 0) (cmp_of n1 n2 (by omega))
    have cac := cmp_at a0 a2 (v := -1) (cmp_of n0 n2 (by omega))
    clear n0 n1 n2 hR5 hR6 i0 i1 t5 t6 c2 c3 c0 hne
    go_enter Try.func3, Try.ntmps3
    go_wp2_with fail
    refine (k0.out _).mono ?_
    rintro e w' ⟨rfl, rfl⟩
    go_wp2_with fail
    refine (k1.out _).mono ?_
    rintro e w' ⟨rfl, rfl⟩
    go_wp2_with fail
    refine (k2.out _).mono ?_
    rintro e w' ⟨rfl, rfl⟩
    go_wp2_with fail
    refine (cab.out _).mono ?_
    rintro e w' ⟨rfl, rfl⟩
    go_wp2_with fail
    refine (cbc.out _).mono ?_
    rintro e w' ⟨rfl, rfl⟩
    go_wp2_with fail
    refine (cac.out _).mono ?_
    rintro e w' ⟨rfl, rfl⟩
    go_wp2_with fail
    refine (cab.out _).mono ?_
    rintro e w' ⟨rfl, rfl⟩
    go_wp2_with fail
    refine (cba.out _).mono ?_
    rintro e w' ⟨rfl, rfl⟩
    go_wp2_with fail
    refine (dlo.out _).mono ?_
    rintro e w' ⟨rfl, ndlo, rfl⟩
    go_wp2_with fail
    refine (dhi.out _).mono ?_
    rintro e w' ⟨rfl, ndhi, rfl⟩
    go_wp2_with fail
    refine (awake_any _).mono ?_
    rintro e w' ⟨rfl, na, rfl⟩
    go_wp2_with fail
    refine (clh.out _).mono ?_
    rintro e w' ⟨rfl, rfl⟩
    go_wp2_with fail
    go_ret
    exact ⟨rfl, grown_drewN (Grown.refl _) _⟩
  by_cases c1 : key a1.toNat < key a0.toNat
  · skip
    have hne : ¬ a0 = a1 := fun k => by rw [k] at c1; omega
    have e1 : (a0 == a1) = false := beq_eq_false_iff_ne.2 hne
    have e2 : (a1 == a0) = false := beq_eq_false_iff_ne.2 (fun k => hne k.symm)
    have dlo := do_at 5 a0 a1 p0 q0 p1 q1 (x := a1) (t := 0) (z := 0) (by rw [hR5]; unfold minF; rw [if_neg c0, if_pos c1, i1]) t5 (doE_ok (by omega) (by omega))
    have dhi := do_at 6 a0 a1 p0 q0 p1 q1 (x := a0) (t := 0) (z := 0) (by rw [hR6]; unfold maxF; rw [if_neg c0, if_pos c1, i0]) t6 (doE_ok (by omega) (by omega))
    have cab := cmp_at a0 a1 (v := 1) (cmp_of n0 n1 (by omega))
    have cba := cmp_at a1 a0 (v := -1) (cmp_of n1 n0 (by omega))
    have clh := cmp_at a1 a0 (v := -1) (cmp_of n1 n0 (by omega))
    clear n0 n1 n2 hR5 hR6 i0 i1 t5 t6 c0 c1 hne
    go_enter Try.func3, Try.ntmps3
    go_wp2_with fail
    refine (k0.out _).mono ?_
    rintro e w' ⟨rfl, rfl⟩
    go_wp2_with fail
    refine (k1.out _).mono ?_
    rintro e w' ⟨rfl, rfl⟩
    go_wp2_with fail
    refine (k2.out _).mono ?_
    rintro e w' ⟨rfl, rfl⟩
    go_wp2_with fail
    refine (cab.out _).mono ?_
    rintro e w' ⟨rfl, rfl⟩
    go_wp2_with fail
    refine (cab.out _).mono ?_
    rintro e w' ⟨rfl, rfl⟩
    go_wp2_with fail
    refine (cba.out _).mono ?_
    rintro e w' ⟨rfl, rfl⟩
    go_wp2_with fail
    refine (dlo.out _).mono ?_
    rintro e w' ⟨rfl, ndlo, rfl⟩
    go_wp2_with fail
    refine (dhi.out _).mono ?_
    rintro e w' ⟨rfl, ndhi, rfl⟩
    go_wp2_with fail
    refine (awake_any _).mono ?_
    rintro e w' ⟨rfl, na, rfl⟩
    go_wp2_with fail
    refine (clh.out _).mono ?_
    rintro e w' ⟨rfl, rfl⟩
    go_wp2_with fail
    go_ret
    exact ⟨rfl, grown_drewN (Grown.refl _) _⟩
  by_cases hne : a0 = a1
  · subst hne
    have dlo := do_at 5 a0 a0 p0 q0 p0 q0 (x := a0) (t := 0) (z := 0) (by rw [hR5]; unfold minF; rw [if_neg c0, if_neg c1, ite_self, i0]) t5 (doE_ok (by omega) (by omega))
    have dhi := do_at 6 a0 a0 p0 q0 p0 q0 (x := a0) (t := 0) (z := 0) (by rw [hR6]; unfold maxF; rw [if_neg c0, if_neg c1, ite_self, i0]) t6 (doE_ok (by omega) (by omega))
    have cab := cmp_at a0 a0 (v := 0) (cmp_of n0 n1 (by omega))
    have cba := cmp_at a0 a0 (v := 0) (cmp_of n1 n0 (by omega))
    have clh := cmp_at a0 a0 (v := 0) (cmp_of n0 n1 (by omega))
    by_cases c2 : key a2.toNat < key a0.toNat
    · skip
      have cbc := cmp_at a0 a2 (v := 1) (cmp_of n1 n2 (by omega))
      clear n0 n1 n2 hR5 hR6 i0 i1 t5 t6 c2 c0 c1
      go_enter Try.func3, Try.ntmps3
      go_wp2_with fail
      refine (k0.out _).mono ?_
      rintro e w' ⟨rfl, rfl⟩
      go_wp2_with fail
      refine (k1.out _).mono ?_
      rintro e w' ⟨rfl, rfl⟩
      go_wp2_with fail
      refine (k2.out _).mono ?_
      rintro e w' ⟨rfl, rfl⟩
      go_wp2_with fail
      refine (cab.out _).mono ?_
      rintro e w' ⟨rfl, rfl⟩
      go_wp2_with fail
      refine (cbc.out _).mono ?_
      rintro e w' ⟨rfl, rfl⟩
      go_wp2_with fail
      refine (cab.out _).mono ?_
      rintro e w' ⟨rfl, rfl⟩
      go_wp2_with fail
      refine (cba.out _).mono ?_
      rintro e w' ⟨rfl, rfl⟩
      go_wp2_with fail
      refine (dlo.out _).mono ?_
      rintro e w' ⟨rfl, ndlo, rfl⟩
      go_wp2_with fail
      refine (dhi.out _).mono ?_
      rintro e w' ⟨rfl, ndhi, rfl⟩
      go_wp2_with fail
      refine (awake_any _).mono ?_
      rintro e w' ⟨rfl, na, rfl⟩
      go_wp2_with fail
      refine (clh.out _).mono ?_
      rintro e w' ⟨rfl, rfl⟩
      go_wp2_with fail
      go_ret
      exact ⟨rfl, grown_drewN (Grown.refl _) _⟩
    by_cases c3 : key a0.toNat < key a2.toNat
    · skip
      have cbc := cmp_at a0 a2 (v := -1) (cmp_of n1 n2 (by omega))
      have cac := cmp_at a0 a2 (v := -1) (cmp_of n0 n2 (by omega))
      clear n0 n1 n2 hR5 hR6 i0 i1 t5 t6 c2 c3 c0 c1
      go_enter Try.func3, Try.ntmps3
      go_wp2_with fail
      refine (k0.out _).mono ?_
      rintro e w' ⟨rfl, rfl⟩
      go_wp2_with fail
      refine (k1.out _).mono ?_
      rintro e w' ⟨rfl, rfl⟩
      go_wp2_with fail
      refine (k2.out _).mono ?_
      rintro e w' ⟨rfl, rfl⟩
      go_wp2_with fail
      refine (cab.out _).mono ?_
      rintro e w' ⟨rfl, rfl⟩
      go_wp2_with fail
      refine (cbc.out _).mono ?_
      rintro e w' ⟨rfl, rfl⟩
      go_wp2_with fail
      refine (cac.out _).mono ?_
      rintro e w' ⟨rfl, rfl⟩
      go_wp2_with fail
      refine (cab.out _).mono ?_
      rintro e w' ⟨rfl, rfl⟩
      go_wp2_with fail
      refine (cba.out _).mono ?_
      rintro e w' ⟨rfl, rfl⟩
      go_wp2_with fail
      refine (dlo.out _).mono ?_
      rintro e w' ⟨rfl, ndlo, rfl⟩
      go_wp2_with fail
      refine (dhi.out _).mono ?_
      rintro e w' ⟨rfl, ndhi, rfl⟩
      go_wp2_with fail
      refine (awake_any _).mono ?_
      rintro e w' ⟨rfl, na, rfl⟩
      go_wp2_with fail
      refine (clh.out _).mono ?_
      rintro e w' ⟨rfl, rfl⟩
      go_wp2_with fail
      go_ret
      exact ⟨rfl, grown_drewN (Grown.refl _) _⟩
    have cbc := cmp_at a0 a2 (v := 0) (cmp_of n1 n2 (by omega))
    have cac := cmp_at a0 a2 (v := 0) (cmp_of n0 n2 (by omega))
    clear n0 n1 n2 hR5 hR6 i0 i1 t5 t6 c2 c3 c0 c1
    go_enter Try.func3, Try.ntmps3
    go_wp2_with fail
    refine (k0.out _).mono ?_
    rintro e w' ⟨rfl, rfl⟩
    go_wp2_with fail
    refine (k1.out _).mono ?_
    rintro e w' ⟨rfl, rfl⟩
    go_wp2_with fail
    refine (k2.out _).mono ?_
    rintro e w' ⟨rfl, rfl⟩
    go_wp2_with fail
    refine (cab.out _).mono ?_
    rintro e w' ⟨rfl, rfl⟩
    go_wp2_with fail
    refine (cbc.out _).mono ?_
    rintro e w' ⟨rfl, rfl⟩
    go_wp2_with fail
    refine (cac.out _).mono ?_
    rintro e w' ⟨rfl, rfl⟩
    go_wp2_with fail
    refine (cab.out _).mono ?_
    rintro e w' ⟨rfl, rfl⟩
    go_wp2_with fail
    refine (cba.out _).mono ?_
    rintro e w' ⟨rfl, rfl⟩
    go_wp2_with fail
    refine (dlo.out _).mono ?_
    rintro e w' ⟨rfl, ndlo, rfl⟩
    go_wp2_with fail
    refine (dhi.out _).mono ?_
    rintro e w' ⟨rfl, ndhi, rfl⟩
    go_wp2_with fail
    refine (awake_any _).mono ?_
    rintro e w' ⟨rfl, na, rfl⟩
    go_wp2_with fail
    refine (clh.out _).mono ?_
    rintro e w' ⟨rfl, rfl⟩
    go_wp2_with fail
    go_ret
    exact ⟨rfl, grown_drewN (Grown.refl _) _⟩
  have e1 : (a0 == a1) = false := beq_eq_false_iff_ne.2 hne
  have e2 : (a1 == a0) = false := beq_eq_false_iff_ne.2 (fun k => hne k.symm)
  cases hs : sg a0.toNat
  · skip
    have dlo := do_at 5 a0 a1 p0 q0 p1 q1 (x := a1) (t := 0) (z := 0) (by rw [hR5]; unfold minF; rw [if_neg c0, if_neg c1, hs]; exact i1) t5 (doE_ok (by omega) (by omega))
    have dhi := do_at 6 a0 a1 p0 q0 p1 q1 (x := a0) (t := 0) (z := 0) (by rw [hR6]; unfold maxF; rw [if_neg c0, if_neg c1, hs]; exact i0) t6 (doE_ok (by omega) (by omega))
    have cab := cmp_at a0 a1 (v := 0) (cmp_of n0 n1 (by omega))
    have cba := cmp_at a1 a0 (v := 0) (cmp_of n1 n0 (by omega))
    have clh := cmp_at a1 a0 (v := 0) (cmp_of n1 n0 (by omega))
    by_cases c2 : key a2.toNat < key a1.toNat
    · skip
      have cbc := cmp_at a1 a2 (v := 1) (cmp_of n1 n2 (by omega))
      clear n0 n1 n2 hR5 hR6 i0 i1 t5 t6 c2 c0 c1 hne hs
      go_enter Try.func3, Try.ntmps3
      go_wp2_with fail
      refine (k0.out _).mono ?_
      rintro e w' ⟨rfl, rfl⟩
      go_wp2_with fail
      refine (k1.out _).mono ?_
      rintro e w' ⟨rfl, rfl⟩
      go_wp2_with fail
      refine (k2.out _).mono ?_
      rintro e w' ⟨rfl, rfl⟩
      go_wp2_with fail
      refine (cab.out _).mono ?_
      rintro e w' ⟨rfl, rfl⟩
      go_wp2_with fail
      refine (cbc.out _).mono ?_
      rintro e w' ⟨rfl, rfl⟩
      go_wp2_with fail
      refine (cab.out _).mono ?_
      rintro e w' ⟨rfl, rfl⟩
      go_wp2_with fail
      refine (cba.out _).mono ?_
      rintro e w' ⟨rfl, rfl⟩
      go_wp2_with fail
      refine (dlo.out _).mono ?_
      rintro e w' ⟨rfl, ndlo, rfl⟩
      go_wp2_with fail
      refine (dhi.out _).mono ?_
      rintro e w' ⟨rfl, ndhi, rfl⟩
      go_wp2_with fail
      refine (awake_any _).mono ?_
      rintro e w' ⟨rfl, na, rfl⟩
      go_wp2_with fail
      refine (clh.out _).mono ?_
      rintro e w' ⟨rfl, rfl⟩
      go_wp2_with fail
      go_ret
      exact ⟨rfl, grown_drewN (Grown.refl _) _⟩
    by_cases c3 : key a1.toNat < key a2.toNat
    · skip
      have cbc := cmp_at a1 a2 (v := -1) (cmp_of n1 n2 (by omega))
      have cac := cmp_at a0 a2 (v := -1) (cmp_of n0 n2 (by omega))
      clear n0 n1 n2 hR5 hR6 i0 i1 t5 t6 c2 c3 c0 c1 hne hs
      go_enter Try.func3, Try.ntmps3
      go_wp2_with fail
      refine (k0.out _).mono ?_
      rintro e w' ⟨rfl, rfl⟩
      go_wp2_with fail
      refine (k1.out _).mono ?_
      rintro e w' ⟨rfl, rfl⟩
      go_wp2_with fail
      refine (k2.out _).mono ?_
      rintro e w' ⟨rfl, rfl⟩
      go_wp2_with fail
      refine (cab.out _).mono ?_
      rintro e w' ⟨rfl, rfl⟩
      go_wp2_with fail
      refine (cbc.out _).mono ?_
      rintro e w' ⟨rfl, rfl⟩
      go_wp2_with fail
      refine (cac.out _).mono ?_
      rintro e w' ⟨rfl, rfl⟩
      go_wp2_with fail
      refine (cab.out _).mono ?_
      rintro e w' ⟨rfl, rfl⟩
      go_wp2_with fail
      refine (cba.out _).mono ?_
      rintro e w' ⟨rfl, rfl⟩
      go_wp2_with fail
      refine (dlo.out _).mono ?_
      rintro e w' ⟨rfl, ndlo, rfl⟩
      go_wp2_with fail
      refine (dhi.out _).mono ?_
      rintro e w' ⟨rfl, ndhi, rfl⟩
      go_wp2_with fail
      refine (awake_any _).mono ?_
      rintro e w' ⟨rfl, na, rfl⟩
      go_wp2_with fail
      refine (clh.out _).mono ?_
      rintro e w' ⟨rfl, rfl⟩
      go_wp2_with fail
      go_ret
      exact ⟨rfl, grown_drewN (Grown.refl _) _⟩
    have cbc := cmp_at a1 a2 (v := 0) (cmp_of n1 n2 (by omega))
    have cac := cmp_at a0 a2 (v := 0) (cmp_of n0 n2 (by omega))
    clear n0 n1 n2 hR5 hR6 i0 i1 t5 t6 c2 c3 c0 c1 hne hs
    go_enter Try.func3, Try.ntmps3
    go_wp2_with fail
    refine (k0.out _).mono ?_
    rintro e w' ⟨rfl, rfl⟩
    go_wp2_with fail
    refine (k1.out _).mono ?_
    rintro e w' ⟨rfl, rfl⟩
    go_wp2_with fail
    refine (k2.out _).mono ?_
    rintro e w' ⟨rfl, rfl⟩
    go_wp2_with fail
    refine (cab.out _).mono ?_
    rintro e w' ⟨rfl, rfl⟩
    go_wp2_with fail
    refine (cbc.out _).mono ?_
    rintro e w' ⟨rfl, rfl⟩
    go_wp2_with fail
    refine (cac.out _).mono ?_
    rintro e w' ⟨rfl, rfl⟩
    go_wp2_with fail
    refine (cab.out _).mono ?_
    rintro e w' ⟨rfl, rfl⟩
    go_wp2_with fail
    refine (cba.out _).mono ?_
    rintro e w' ⟨rfl, rfl⟩
    go_wp2_with fail
    refine (dlo.out _).mono ?_
    rintro e w' ⟨rfl, ndlo, rfl⟩
    go_wp2_with fail
    refine (dhi.out _).mono ?_
    rintro e w' ⟨rfl, ndhi, rfl⟩
    go_wp2_with fail
    refine (awake_any _).mono ?_
    rintro e w' ⟨rfl, na, rfl⟩
    go_wp2_with fail
    refine (clh.out _).mono ?_
    rintro e w' ⟨rfl, rfl⟩
    go_wp2_with fail
    go_ret
    exact ⟨rfl, grown_drewN (Grown.refl _) _⟩
  · skip
    have dlo := do_at 5 a0 a1 p0 q0 p1 q1 (x := a0) (t := 0) (z := 0) (by rw [hR5]; unfold minF; rw [if_neg c0, if_neg c1, hs]; exact i0) t5 (doE_ok (by omega) (by omega))
    have dhi := do_at 6 a0 a1 p0 q0 p1 q1 (x := a1) (t := 0) (z := 0) (by rw [hR6]; unfold maxF; rw [if_neg c0, if_neg c1, hs]; exact i1) t6 (doE_ok (by omega) (by omega))
    have cab := cmp_at a0 a1 (v := 0) (cmp_of n0 n1 (by omega))
    have cba := cmp_at a1 a0 (v := 0) (cmp_of n1 n0 (by omega))
    have clh := cmp_at a0 a1 (v := 0) (cmp_of n0 n1 (by omega))
    by_cases c2 : key a2.toNat < key a1.toNat
    · skip
      have cbc := cmp_at a1 a2 (v := 1) (cmp_of n1 n2 (by omega))
      clear n0 n1 n2 hR5 hR6 i0 i1 t5 t6 c2 c0 c1 hne hs
      go_enter Try.func3, Try.ntmps3
      go_wp2_with fail
      refine (k0.out _).mono ?_
      rintro e w' ⟨rfl, rfl⟩
      go_wp2_with fail
      refine (k1.out _).mono ?_
      rintro e w' ⟨rfl, rfl⟩
      go_wp2_with fail
      refine (k2.out _).mono ?_
      rintro e w' ⟨rfl, rfl⟩
      go_wp2_with fail
      refine (cab.out _).mono ?_
      rintro e w' ⟨rfl, rfl⟩
      go_wp2_with fail
      refine (cbc.out _).mono ?_
      rintro e w' ⟨rfl, rfl⟩
      go_wp2_with fail
      refine (cab.out _).mono ?_
      rintro e w' ⟨rfl, rfl⟩
      go_wp2_with fail
      refine (cba.out _).mono ?_
      rintro e w' ⟨rfl, rfl⟩
      go_wp2_with fail
      refine (dlo.out _).mono ?_
      rintro e w' ⟨rfl, ndlo, rfl⟩
      go_wp2_with fail
      refine (dhi.out _).mono ?_
      rintro e w' ⟨rfl, ndhi, rfl⟩
      go_wp2_with fail
      refine (awake_any _).mono ?_
      rintro e w' ⟨rfl, na, rfl⟩
      go_wp2_with fail
      refine (clh.out _).mono ?_
      rintro e w' ⟨rfl, rfl⟩
      go_wp2_with fail
      go_ret
      exact ⟨rfl, grown_drewN (Grown.refl _) _⟩
    by_cases c3 : key a1.toNat < key a2.toNat
    · skip
      have cbc := cmp_at a1 a2 (v := -1) (cmp_of n1 n2 (by omega))
      have cac := cmp_at a0 a2 (v := -1) (cmp_of n0 n2 (by omega))
      clear n0 n1 n2 hR5 hR6 i0 i1 t5 t6 c2 c3 c0 c1 hne hs
      go_enter Try.func3, Try.ntmps3
      go_wp2_with fail
      refine (k0.out _).mono ?_
      rintro e w' ⟨rfl, rfl⟩
      go_wp2_with fail
      refine (k1.out _).mono ?_
      rintro e w' ⟨rfl, rfl⟩
      go_wp2_with fail
      refine (k2.out _).mono ?_
      rintro e w' ⟨rfl, rfl⟩
      go_wp2_with fail
      refine (cab.out _).mono ?_
      rintro e w' ⟨rfl, rfl⟩
      go_wp2_with fail
      refine (cbc.out _).mono ?_
      rintro e w' ⟨rfl, rfl⟩
      go_wp2_with fail
      refine (cac.out _).mono ?_
      rintro e w' ⟨rfl, rfl⟩
      go_wp2_with fail
      refine (cab.out _).mono ?_
      rintro e w' ⟨rfl, rfl⟩
      go_wp2_with fail
      refine (cba.out _).mono ?_
      rintro e w' ⟨rfl, rfl⟩
      go_wp2_with fail
      refine (dlo.out _).mono ?_
      rintro e w' ⟨rfl, ndlo, rfl⟩
      go_wp2_with fail
      refine (dhi.out _).mono ?_
      rintro e w' ⟨rfl, ndhi, rfl⟩
      go_wp2_with fail
      refine (awake_any _).mono ?_
      rintro e w' ⟨rfl, na, rfl⟩
      go_wp2_with fail
      refine (clh.out _).mono ?_
      rintro e w' ⟨rfl, rfl⟩
      go_wp2_with fail
      go_ret
      exact ⟨rfl, grown_drewN (Grown.refl _) _⟩
    have cbc := cmp_at a1 a2 (v := 0) (cmp_of n1 n2 (by omega))
    have cac := cmp_at a0 a2 (v := 0) (cmp_of n0 n2 (by omega))
    clear n0 n1 n2 hR5 hR6 i0 i1 t5 t6 c2 c3 c0 c1 hne hs
    go_enter Try.func3, Try.ntmps3
    go_wp2_with fail
    refine (k0.out _).mono ?_
    rintro e w' ⟨rfl, rfl⟩
    go_wp2_with fail
    refine (k1.out _).mono ?_
    rintro e w' ⟨rfl, rfl⟩
    go_wp2_with fail
    refine (k2.out _).mono ?_
    rintro e w' ⟨rfl, rfl⟩
    go_wp2_with fail
    refine (cab.out _).mono ?_
    rintro e w' ⟨rfl, rfl⟩
    go_wp2_with fail
    refine (cbc.out _).mono ?_
    rintro e w' ⟨rfl, rfl⟩
    go_wp2_with fail
    refine (cac.out _).mono ?_
    rintro e w' ⟨rfl, rfl⟩
    go_wp2_with fail
    refine (cab.out _).mono ?_
    rintro e w' ⟨rfl, rfl⟩
    go_wp2_with fail
    refine (cba.out _).mono ?_
    rintro e w' ⟨rfl, rfl⟩
    go_wp2_with fail
    refine (dlo.out _).mono ?_
    rintro e w' ⟨rfl, ndlo, rfl⟩
    go_wp2_with fail
    refine (dhi.out _).mono ?_
    rintro e w' ⟨rfl, ndhi, rfl⟩
    go_wp2_with fail
    refine (awake_any _).mono ?_
    rintro e w' ⟨rfl, na, rfl⟩
    go_wp2_with fail
    refine (clh.out _).mono ?_
    rintro e w' ⟨rfl, rfl⟩
    go_wp2_with fail
    go_ret
    exact ⟨rfl, grown_drewN (Grown.refl _) _⟩

set_option maxRecDepth 100000 in
theorem lifted (os : Os) (started : os.Started) (H : Type) (enc : TypeId × Value → H) :
    ReturnsInHanded {} Try.checked os 3 .any (Rows.fltRanksSpec.pre6 enc Try.prog Try.f3 Rows.fltRanksRow.domain false) (Rows.fltRanksSpec.post enc Try.prog Try.f3 false true false false) := by
  refine returnsInHanded_of_change (C := Try.checked) own started (by kernel_rfl) Try.func3
    (ChangeSpec.witness6 (enc := enc) (C := Try.checked) false ⟨#[], #[.int .u64 0, .int .u64 0, .int .u64 0], []⟩ 8 (by kernel_rfl) (by kernel_rfl) (by kernel_rfl) (by kernel_rfl)) ?_
  intro W base args ds gs before hval0 hW hcnd _
  have hval : ∀ (j : Nat) t v, Try.f3.params[j]? = some t → args[j]? = some v → Value.okWide Try.prog W .any base t v := hval0
  have hW' := hW
  obtain ⟨p, q, hA0, hV, rfl, hfz, hnd⟩ := hW
  have hA : DataW.TrodAll enc Try.prog W 0 (fun _ => true) true Try.f3.params.toList args.toList ds p := hA0
  rw [Try.params3] at hA hval
  obtain ⟨v0, vs0, d0, ds0, p0, q0, hargs, rfl, rfl, h0, r0⟩ := trodAll_cons hA
  obtain ⟨v1, vs1, d1, ds1, p1, q1, rfl, rfl, rfl, h1, r1⟩ := trodAll_cons r0
  obtain ⟨v2, vs2, d2, ds2, p2, q2, rfl, rfl, rfl, h2, r2⟩ := trodAll_cons r1
  obtain ⟨rfl, rfl, rfl⟩ := trodAll_nil r2
  obtain rfl : args = #[v0, v1, v2] := by cases args; simp_all
  obtain ⟨rfl, rfl⟩ := trodVars_none hV
  obtain ⟨a0, rfl, rfl, rfl, w0⟩ := open_int Try.underlying22 (hval 0 22 v0 rfl rfl) h0
  obtain ⟨a1, rfl, rfl, rfl, w1⟩ := open_int Try.underlying22 (hval 1 22 v1 rfl rfl) h1
  obtain ⟨a2, rfl, rfl, rfl, w2⟩ := open_int Try.underlying22 (hval 2 22 v2 rfl rfl) h2
  clear hA0 hval0
  simp only [List.append_nil] at hW'
  refine (walk a0 a1 a2 w0 w1 w2 W).mono fun e W' ⟨he, hg⟩ => ?_
  subst he
  exact ⟨_, rfl, post_of_same (pa := []) (pv := []) hW' (fun _ _ _ => (trodAll_cons_mk (shut_bool Try.underlying4 _) trodAll_mk0)) (fun sp _ => (trodAll_cons_mk (shut_int Try.underlying22 w0) (trodAll_cons_mk (shut_int Try.underlying22 w1) (trodAll_cons_mk (shut_int Try.underlying22 w2) trodAll_mk0)))) (fun _ _ => rfl) rfl
    (hg.frame _) hg.2.1 (ok_one (by kernel_rfl) rfl (okWide_bool_mk Try.underlying4 _))⟩

theorem over : Rows.fltRanksRow.holds Try.pinned (OpenSpec.ofChange Rows.fltRanksSpec) :=
  OpenClaim.holds_of_wide 3 Try.f3 rfl rfl rfl rfl rfl rfl rfl ⟨rfl, rfl, rfl, rfl, rfl⟩ rfl rfl rfl rfl rfl (by kernel_rfl) Try.func3 (by kernel_rfl)
    (of_decide_eq_true (by kernel_rfl)) (by unfold Func.isWrapper; first | (rw [if_pos (by decide +kernel)]; kernel_rfl) | (rw [if_neg (by decide +kernel)]; exact ⟨rfl, rfl⟩))
    (fun os started H enc _ => lifted os started H enc)

theorem proved : Rows.FltRanksSaid :=
  over
#print axioms proved
end Go.Proofs.Ytpfmkhnogobioac.fltRanks
