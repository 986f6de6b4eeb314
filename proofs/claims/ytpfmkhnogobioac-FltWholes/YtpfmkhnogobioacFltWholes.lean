/- For any number's bits, what flt.ToInt says isn't further from nought than the number, and by less than one; a number that has no whole one of 64 bits is answered 0; no condition. -/
import Derived.Test.YtpfmkhnogobioacRows
import Derived.WalkKit
import Derived.ProofKit
import Derived.OpenShut
import Derived.Test.YtpfmkhnogobioacAt
import Derived.Test.YtpfmkhnogobioacToI2
import Derived.Test.YtpfmkhnogobioacMath5
namespace Go.Proofs.Ytpfmkhnogobioac.fltWholes
open Go.ChangeShapes Go.WideShapes Go.ChangeAt Go.RowKit
open FltM
set_option linter.unusedSimpArgs false
set_option linter.unusedVariables false

theorem own : ownKnob Try.prog.godebug = none := by kernel_rfl

theorem cmp_low {u t : Nat} (hu : u < 9223372036854775808) (ht : t < 9218868437227405312) (h : u < t) : cmpF u t = -1 := by
  have hs : ∀ x, x < 9223372036854775808 → key x = (x : Int) := by
    intro x hx
    have e1 : sg x = false := by unfold sg; rw [beq_eq_false_iff_ne]; omega
    have e2 : rg x = x := Nat.mod_eq_of_lt hx
    unfold key sz; rw [e1, e2]; rfl
  have e1 : rg u = u := Nat.mod_eq_of_lt hu
  have e2 : rg t = t := Nat.mod_eq_of_lt (by omega)
  unfold cmpF; rw [e1, e2, hs u hu, hs t (by omega), if_neg (by omega), if_pos (by omega)]
theorem cmp_self {u : Nat} (hu : u < 9218868437227405312) : cmpF u u = 0 := by
  have e1 : rg u = u := Nat.mod_eq_of_lt (by omega)
  unfold cmpF; rw [e1, if_neg (by omega), if_neg (by omega), if_neg (by omega)]
/-- the facts on the number x, its whole number and what is left -/
theorem parts {x : Nat} {n : Int} (hx : x < 18446744073709551616) (he : toE x = 0) (hn0 : toI x = n) :
    ∃ t u, rg x < 9218868437227405312 ∧ fromI n < 18446744073709551616 ∧ rg (fromI n) = t ∧ t ≤ rg x ∧ u < 4607182418800017408 ∧
      ¬ 9218868437227405312 < rg (fromI n) ∧ ∃ d, Ieee.double.sub x (fromI n) = some d ∧ rg d = u ∧ d < 18446744073709551616 := by
  subst hn0
  have hc : rg x < 9218868437227405312 ∧ -9223372036854775808 ≤ sz (sg x) (tmag (rg x)) ∧ sz (sg x) (tmag (rg x)) < 9223372036854775808 := by
    unfold toE at he
    by_cases c : rg x < 9218868437227405312 ∧ -9223372036854775808 ≤ sz (sg x) (tmag (rg x)) ∧ sz (sg x) (tmag (rg x)) < 9223372036854775808
    · exact c
    · rw [if_neg c] at he; omega
  have hn : toI x = sz (sg x) (tmag (rg x)) := by unfold toI; rw [if_pos hc]
  obtain ⟨hr, h1, h2⟩ := hc
  obtain ⟨t, ht, hv, hw⟩ := trunc_write (sg x) hr
  obtain ⟨u, hu⟩ := frac_rung (rg x)
  have hwr : ∀ s, Ieee.double.nearest s (tmag (rg x)) 0 = Ieee.double.word s t := fun s =>
    nearest_val s E74 0 (by rw [Nat.pow_zero, Nat.mul_one]; exact hv.symm) (by rw [E74_eq]; rfl) (by omega)
  have hy : fromI (toI x) = Ieee.double.word (decide (toI x < 0)) t := by
    unfold fromI; rw [hn, sz_natAbs]; exact hwr _
  have hur : u < 4607182418800017408 := lt_of_val (by rw [hu, val_one]; exact Nat.mod_lt _ pE)
  have hry : rg (fromI (toI x)) = t := by rw [hy]; exact rg_word _ (by omega)
  refine ⟨t, u, hr, fromI_lt _, hry, ht, hur, by rw [hry]; omega, ?_⟩
  have hopp : (Ieee.double.read (fromI (toI x))).opposite = .number (!decide (toI x < 0)) (mant t) (-1074 + (shf t : Int)) := by
    rw [hy, read_word _ (by omega)]; rfl
  have hsum : (sz (sg x) (val (rg x)) + sz (!decide (toI x < 0)) (val t)).natAbs = val u := by
    have hd : tmag (rg x) * 2 ^ E74 + val (rg x) % 2 ^ E74 = val (rg x) := by unfold tmag; exact Nat.div_add_mod' _ _
    rw [← hv, ← hu] at hd
    by_cases z : tmag (rg x) = 0
    · have hv0 : val t = 0 := by rw [hv, z, Nat.zero_mul]
      rw [hv0] at hd ⊢
      have : ∀ b, sz b 0 = 0 := by intro b; cases b <;> rfl
      rw [this, Int.add_zero, sz_natAbs]; omega
    · have hs : decide (toI x < 0) = sg x := by rw [hn]; exact sz_neg z
      rw [hs]
      cases sg x
      · simp only [sz, Bool.not_false]; simp; omega
      · simp only [sz, Bool.not_true]; simp; omega
  obtain ⟨σ, hs⟩ : ∃ σ, ((Ieee.Datum.number (sg x) (mant (rg x)) (-1074 + (shf (rg x) : Int))).sum (.number (!decide (toI x < 0)) (mant t) (-1074 + (shf t : Int)))).map Ieee.double.write = some (Ieee.double.word σ u) := ⟨_, sum_exact (sg x) (!decide (toI x < 0)) hsum (by omega)⟩
  refine ⟨Ieee.double.word σ u, ?_, rg_word _ (by omega), word_lt64 _ (by omega)⟩
  unfold Ieee.Format.sub
  rw [hopp, read_num hr]
  exact hs

set_option maxHeartbeats 1000000 in
theorem walk (a0 : Int) (w0 : (Lit.int .u64 a0).wf = true) (w : World) :
    Calls Try.prog 5 #[.int .u64 a0] w fun e w' => e = .returned (.bool true) ∧ Grown w w' := by
  have u0 : 0 ≤ a0 ∧ a0 < 18446744073709551616 := by simp [Lit.wf, IntKind.min, IntKind.max, IntKind.signed, IntKind.bits] at w0; omega
  obtain ⟨p0, q0⟩ := u0
  clear w0
  by_cases he : toE a0.toNat = 0
  · obtain ⟨n, hn⟩ : ∃ n, toI a0.toNat = n := ⟨_, rfl⟩
    obtain ⟨t, u, hr, hylt, hry, htr, hu1, hny, d, hsub, hrd, hdlt⟩ := parts (x := a0.toNat) (by omega) he hn
    obtain ⟨y, hy⟩ : ∃ y : Int, ((fromI n : Nat) : Int) = y := ⟨_, rfl⟩
    obtain ⟨z, hz⟩ : ∃ z : Int, (d : Int) = z := ⟨_, rfl⟩
    have hyn : y.toNat = fromI n := by omega
    have hzn : z.toNat = d := by omega
    have nx : ¬ 9218868437227405312 < rg a0.toNat := by omega
    have nd : ¬ 9218868437227405312 < rg d := by rw [hrd]; omega
    have hrk : reck 2 a0.toNat (fromI n) = d := reck_of nx hny (Or.inr (Or.inl ⟨rfl, hsub⟩))
    have cd : cls d ≠ 3 := by
      intro k
      unfold cls at k; rw [hrd, if_neg (by omega), if_neg (by omega)] at k
      split at k
      · omega
      · split at k <;> omega
    have d0 := toint_at a0 hn he
    have g1 := from_at n hy
    have d1 := do_at 2 a0 y p0 q0 (by omega) (by omega) (x := z) (t := 0) (z := 0) (by rw [hyn, doR_of nx hny (Or.inr (Or.inl ⟨rfl, hsub⟩)), hz]) (by rw [hyn]; unfold doT; rw [if_neg (by omega), hrk]; exact tells_of nx hny nd (fun k => by omega) (fun k => absurd k cd)) (doE_ok (by omega) (by omega))
    have g2 := from_at 1 (v := 4607182418800017408) (by rw [fromI_one]; rfl)
    have d2 := do_at 8 z 0 (by omega) (by omega) (by omega) (by omega) (x := (u : Int)) (t := 0) (z := 0) (by rw [doR_abs, hzn, hrd]) (doT_abs _ _) (doE_ok (by omega) (by omega))
    have c1 := cmp_at (u : Int) 4607182418800017408 (v := -1) (cmp_low (by rw [Int.toNat_natCast]; omega) (by decide) (by rw [Int.toNat_natCast]; exact hu1))
    have d3 := do_at 8 a0 0 p0 q0 (by omega) (by omega) (x := (rg a0.toNat : Int)) (t := 0) (z := 0) (by rw [doR_abs]) (doT_abs _ _) (doE_ok (by omega) (by omega))
    have d4 := do_at 8 y 0 (by omega) (by omega) (by omega) (by omega) (x := (t : Int)) (t := 0) (z := 0) (by rw [doR_abs, hyn, hry]) (doT_abs _ _) (doE_ok (by omega) (by omega))
    obtain ⟨r, hrr⟩ : ∃ r : Nat, rg a0.toNat = r := ⟨_, rfl⟩
    rw [hrr] at d3
    by_cases c : t < r
    · have c2 := cmp_at (t : Int) (r : Int) (v := -1) (cmp_low (by rw [Int.toNat_natCast]; omega) (by rw [Int.toNat_natCast]; omega) (by rw [Int.toNat_natCast, Int.toNat_natCast]; exact c))
      clear he hn hy hz hyn hzn nx nd hrk cd hr hylt hry htr hu1 hny hsub hrd hdlt hrr c
      go_enter Try.func5, Try.ntmps5
      go_wp2_with fail
      refine (d0.out _).mono ?_
      rintro e w' ⟨rfl, nd0, rfl⟩
      go_wp2_with fail
      refine (g1.out _).mono ?_
      rintro e w' ⟨rfl, rfl⟩
      go_wp2_with fail
      refine (d1.out _).mono ?_
      rintro e w' ⟨rfl, nd1, rfl⟩
      go_wp2_with fail
      refine (g2.out _).mono ?_
      rintro e w' ⟨rfl, rfl⟩
      go_wp2_with fail
      refine (d2.out _).mono ?_
      rintro e w' ⟨rfl, nd2, rfl⟩
      go_wp2_with fail
      refine (c1.out _).mono ?_
      rintro e w' ⟨rfl, rfl⟩
      go_wp2_with fail
      refine (d3.out _).mono ?_
      rintro e w' ⟨rfl, nd3, rfl⟩
      go_wp2_with fail
      refine (d4.out _).mono ?_
      rintro e w' ⟨rfl, nd4, rfl⟩
      go_wp2_with fail
      refine (awake_any _).mono ?_
      rintro e w' ⟨rfl, na, rfl⟩
      go_wp2_with fail
      refine (c2.out _).mono ?_
      rintro e w' ⟨rfl, rfl⟩
      go_wp2_with fail
      go_ret
      exact ⟨rfl, grown_drewN (Grown.refl _) _⟩
    · have ht : t = r := by omega
      subst ht
      have c2 := cmp_at (t : Int) (t : Int) (v := 0) (by rw [Int.toNat_natCast]; exact cmp_self (by omega))
      clear he hn hy hz hyn hzn nx nd hrk cd hr hylt hry htr hu1 hny hsub hrd hdlt hrr c
      go_enter Try.func5, Try.ntmps5
      go_wp2_with fail
      refine (d0.out _).mono ?_
      rintro e w' ⟨rfl, nd0, rfl⟩
      go_wp2_with fail
      refine (g1.out _).mono ?_
      rintro e w' ⟨rfl, rfl⟩
      go_wp2_with fail
      refine (d1.out _).mono ?_
      rintro e w' ⟨rfl, nd1, rfl⟩
      go_wp2_with fail
      refine (g2.out _).mono ?_
      rintro e w' ⟨rfl, rfl⟩
      go_wp2_with fail
      refine (d2.out _).mono ?_
      rintro e w' ⟨rfl, nd2, rfl⟩
      go_wp2_with fail
      refine (c1.out _).mono ?_
      rintro e w' ⟨rfl, rfl⟩
      go_wp2_with fail
      refine (d3.out _).mono ?_
      rintro e w' ⟨rfl, nd3, rfl⟩
      go_wp2_with fail
      refine (d4.out _).mono ?_
      rintro e w' ⟨rfl, nd4, rfl⟩
      go_wp2_with fail
      refine (awake_any _).mono ?_
      rintro e w' ⟨rfl, na, rfl⟩
      go_wp2_with fail
      refine (c2.out _).mono ?_
      rintro e w' ⟨rfl, rfl⟩
      go_wp2_with fail
      go_ret
      exact ⟨rfl, grown_drewN (Grown.refl _) _⟩
  · have h0 : toI a0.toNat = 0 ∧ toE a0.toNat = 1 := by
      unfold toI toE at *
      by_cases k : rg a0.toNat < 9218868437227405312 ∧ -9223372036854775808 ≤ sz (sg a0.toNat) (tmag (rg a0.toNat)) ∧ sz (sg a0.toNat) (tmag (rg a0.toNat)) < 9223372036854775808
      · rw [if_pos k] at he; omega
      · rw [if_neg k, if_neg k]; exact ⟨rfl, rfl⟩
    have d0 := toint_at a0 h0.1 h0.2
    clear he h0
    go_enter Try.func5, Try.ntmps5
    go_wp2_with fail
    refine (d0.out _).mono ?_
    rintro e w' ⟨rfl, nd0, rfl⟩
    go_wp2_with fail
    refine (awake_any _).mono ?_
    rintro e w' ⟨rfl, na, rfl⟩
    go_wp2_with fail
    go_ret
    exact ⟨rfl, grown_drewN (Grown.refl _) _⟩

set_option maxRecDepth 100000 in
theorem lifted (os : Os) (started : os.Started) (H : Type) (enc : TypeId × Value → H) :
    ReturnsInHanded {} Try.checked os 5 .any (Rows.fltWholesSpec.pre6 enc Try.prog Try.f5 Rows.fltWholesRow.domain false) (Rows.fltWholesSpec.post enc Try.prog Try.f5 false true false false) := by
  refine returnsInHanded_of_change (C := Try.checked) own started (by kernel_rfl) Try.func5
    (ChangeSpec.witness6 (enc := enc) (C := Try.checked) false ⟨#[], #[.int .u64 0], []⟩ 8 (by kernel_rfl) (by kernel_rfl) (by kernel_rfl) (by kernel_rfl)) ?_
  intro W base args ds gs before hval0 hW hcnd _
  have hval : ∀ (j : Nat) t v, Try.f5.params[j]? = some t → args[j]? = some v → Value.okWide Try.prog W .any base t v := hval0
  have hW' := hW
  obtain ⟨p, q, hA0, hV, rfl, hfz, hnd⟩ := hW
  have hA : DataW.TrodAll enc Try.prog W 0 (fun _ => true) true Try.f5.params.toList args.toList ds p := hA0
  rw [Try.params5] at hA hval
  obtain ⟨v0, vs0, d0, ds0, p0, q0, hargs, rfl, rfl, h0, r0⟩ := trodAll_cons hA
  obtain ⟨rfl, rfl, rfl⟩ := trodAll_nil r0
  obtain rfl : args = #[v0] := by cases args; simp_all
  obtain ⟨rfl, rfl⟩ := trodVars_none hV
  obtain ⟨a0, rfl, rfl, rfl, w0⟩ := open_int Try.underlying22 (hval 0 22 v0 rfl rfl) h0
  clear hA0 hval0
  simp only [List.append_nil] at hW'
  refine (walk a0 w0 W).mono fun e W' ⟨he, hg⟩ => ?_
  subst he
  exact ⟨_, rfl, post_of_same (pa := []) (pv := []) hW' (fun _ _ _ => (trodAll_cons_mk (shut_bool Try.underlying4 _) trodAll_mk0)) (fun sp _ => (trodAll_cons_mk (shut_int Try.underlying22 w0) trodAll_mk0)) (fun _ _ => rfl) rfl
    (hg.frame _) hg.2.1 (ok_one (by kernel_rfl) rfl (okWide_bool_mk Try.underlying4 _))⟩

theorem over : Rows.fltWholesRow.holds Try.pinned (OpenSpec.ofChange Rows.fltWholesSpec) :=
  OpenClaim.holds_of_wide 5 Try.f5 rfl rfl rfl rfl rfl rfl rfl ⟨rfl, rfl, rfl, rfl, rfl⟩ rfl rfl rfl rfl rfl (by kernel_rfl) Try.func5 (by kernel_rfl)
    (of_decide_eq_true (by kernel_rfl)) (by unfold Func.isWrapper; first | (rw [if_pos (by decide +kernel)]; kernel_rfl) | (rw [if_neg (by decide +kernel)]; exact ⟨rfl, rfl⟩))
    (fun os started H enc _ => lifted os started H enc)

theorem proved : Rows.FltWholesSaid :=
  over
#print axioms proved
end Go.Proofs.Ytpfmkhnogobioac.fltWholes
