/- For any two whole numbers, taken below 2 to the 26 in size, flt.FromInt and flt.ToInt go there and back, and flt.Do adds and multiplies them exactly and tells nothing; no condition. -/
import Derived.Test.YtpfmkhnogobioabRows
import Derived.WalkKit
import Derived.ProofKit
import Derived.OpenShut
import Derived.Test.YtpfmkhnogobioabAt
import Derived.Test.YtpfmkhnogobioabToI2
import Derived.Test.YtpfmkhnogobioabMath5
namespace Go.Proofs.Ytpfmkhnogobioab.fltWhole
open Go.ChangeShapes Go.WideShapes Go.ChangeAt Go.RowKit
open FltM
set_option linter.unusedSimpArgs false
set_option linter.unusedVariables false

theorem own : ownKnob Try.prog.godebug = none := by kernel_rfl

theorem cls_fin {x : Nat} (h : rg x < 9218868437227405312) : cls x ≠ 3 := by
  intro k
  unfold cls at k; rw [if_neg (by omega), if_neg (by omega)] at k
  split at k
  · omega
  · split at k <;> omega
theorem sz_cases (σ : Bool) (n : Int) (h : n ≠ 0 → σ = decide (n < 0)) : sz σ n.natAbs = n := by
  by_cases z : n = 0
  · subst z; cases σ <;> rfl
  · rw [h z]; exact sz_of n
theorem whole_add {a b : Int} (ha : a.natAbs < 67108864) (hb : b.natAbs < 67108864) :
    ∃ d, Ieee.double.add (fromI a) (fromI b) = some d ∧ rg d < 9218868437227405312 ∧ d < 18446744073709551616 ∧ toI d = a + b ∧ toE d = 0 := by
  obtain ⟨r, hr, hvr, hwr⟩ := fromI_word (n := a) (by omega)
  obtain ⟨t, ht, hvt, hwt⟩ := fromI_word (n := b) (by omega)
  obtain ⟨u, hu⟩ := exists_rung E74 (a + b).natAbs (by omega)
  have hui := rung_lt_inf hu (by omega) (by rw [E74_eq]; omega)
  have hsum : sz (decide (a < 0)) (val r) + sz (decide (b < 0)) (val t) = (a + b) * ((2 ^ E74 : Nat) : Int) := by
    rw [hvr, hvt, sz_mul, sz_mul, sz_of, sz_of, Int.add_mul]
  have hp : (0 : Int) < ((2 ^ E74 : Nat) : Int) := by have := pE; omega
  obtain ⟨σ, hσ, hs⟩ : ∃ σ, (a + b ≠ 0 → σ = decide (a + b < 0)) ∧ ((Ieee.Datum.number (decide (a < 0)) (mant r) (-1074 + (shf r : Int))).sum (.number (decide (b < 0)) (mant t) (-1074 + (shf t : Int)))).map Ieee.double.write = some (Ieee.double.word σ u) := by
    refine ⟨_, ?_, sum_exact _ _ (by rw [hsum, natAbs_mul_pow, hu]) (by omega)⟩
    intro hz
    rw [hsum, if_neg (fun k => by rw [Int.mul_eq_zero] at k; omega)]
    congr 1
    apply propext
    constructor
    · intro h
      rcases Int.lt_or_le (a + b) 0 with c | c
      · exact c
      · have := Int.mul_nonneg c (Int.le_of_lt hp); omega
    · intro h; exact Int.mul_neg_of_neg_of_pos h hp
  have hsz := sz_cases σ (a + b) hσ
  have hto := toI_word (s := σ) hui hu (by rw [hsz]; omega) (by rw [hsz]; omega)
  refine ⟨Ieee.double.word σ u, ?_, by rw [rg_word _ (by omega)]; exact hui, word_lt64 _ (by omega), by rw [hto.1, hsz], hto.2⟩
  unfold Ieee.Format.add
  rw [hwr, hwt, read_word _ hr, read_word _ ht]; exact hs
theorem whole_mul {a b : Int} (ha : a.natAbs < 67108864) (hb : b.natAbs < 67108864) :
    ∃ d, Ieee.double.mul (fromI a) (fromI b) = some d ∧ rg d < 9218868437227405312 ∧ d < 18446744073709551616 ∧ toI d = a * b ∧ toE d = 0 := by
  obtain ⟨r, hr, hvr, hwr⟩ := fromI_word (n := a) (by omega)
  obtain ⟨t, ht, hvt, hwt⟩ := fromI_word (n := b) (by omega)
  have hm : a.natAbs * b.natAbs ≤ 67108863 * 67108863 := Nat.mul_le_mul (by omega) (by omega)
  obtain ⟨u, hu⟩ := exists_rung E74 (a.natAbs * b.natAbs) (by omega)
  have hui := rung_lt_inf hu (by omega) (by rw [E74_eq]; omega)
  have hs := prod_exact (decide (a < 0)) (decide (b < 0)) hvr hvt hu (by omega)
  have hsz : sz (decide (a < 0) ^^ decide (b < 0)) (a.natAbs * b.natAbs) = a * b := by
    have e1 := sz_of a
    have e2 := sz_of b
    have e3 : ∀ (s t : Bool) (m n : Nat), sz (s ^^ t) (m * n) = sz s m * sz t n := by
      intro s t m n; cases s <;> cases t <;> simp [sz, Int.mul_neg, Int.neg_mul]
    rw [e3, e1, e2]
  have hb1 : -9223372036854775808 ≤ a * b ∧ a * b < 9223372036854775808 := by
    have : (a * b).natAbs ≤ 67108863 * 67108863 := by rw [Int.natAbs_mul]; exact hm
    omega
  have hto := toI_word (s := decide (a < 0) ^^ decide (b < 0)) hui hu (by rw [hsz]; exact hb1.1) (by rw [hsz]; exact hb1.2)
  refine ⟨Ieee.double.word (decide (a < 0) ^^ decide (b < 0)) u, ?_, by rw [rg_word _ (by omega)]; exact hui, word_lt64 _ (by omega), by rw [hto.1, hsz], hto.2⟩
  unfold Ieee.Format.mul
  rw [hwr, hwt, read_word _ hr, read_word _ ht]; exact hs
theorem whole_back {a : Int} (ha : a.natAbs < 67108864) : toI (fromI a) = a ∧ toE (fromI a) = 0 ∧ rg (fromI a) < 9218868437227405312 := by
  obtain ⟨r, hr, hvr, hwr⟩ := fromI_word (n := a) (by omega)
  have hto := toI_word (s := decide (a < 0)) hr hvr (by rw [sz_of]; omega) (by rw [sz_of]; omega)
  rw [hwr]
  exact ⟨by rw [hto.1, sz_of], hto.2, by rw [rg_word _ (by omega)]; exact hr⟩
theorem prod_small {a b : Int} (ha : a.natAbs < 67108864) (hb : b.natAbs < 67108864) : -4503599627370496 ≤ a * b ∧ a * b ≤ 4503599627370496 := by
  have hm : a.natAbs * b.natAbs ≤ 67108863 * 67108863 := Nat.mul_le_mul (by omega) (by omega)
  have : (a * b).natAbs ≤ 67108863 * 67108863 := by rw [Int.natAbs_mul]; exact hm
  omega

set_option maxHeartbeats 1000000 in
theorem walk (a0 : Int) (a1 : Int) (w0 : (Lit.int .i64 a0).wf = true) (w1 : (Lit.int .i64 a1).wf = true) (w : World) :
    Calls Try.prog 8 #[.int .i64 a0, .int .i64 a1] w fun e w' => e = .returned (.bool true) ∧ Grown w w' := by
  obtain ⟨A, hA⟩ : ∃ A : Int, a0.tmod 67108864 = A := ⟨_, rfl⟩
  obtain ⟨B, hB⟩ : ∃ B : Int, a1.tmod 67108864 = B := ⟨_, rfl⟩
  have lA : A.natAbs < 67108864 := by rw [← hA, Int.natAbs_tmod]; exact Nat.mod_lt _ (by decide)
  have lB : B.natAbs < 67108864 := by rw [← hB, Int.natAbs_tmod]; exact Nat.mod_lt _ (by decide)
  have bA : -67108864 < A ∧ A < 67108864 := by omega
  have bB : -67108864 < B ∧ B < 67108864 := by omega
  obtain ⟨bA1, bA2⟩ := bA
  obtain ⟨bB1, bB2⟩ := bB
  have hw : wrap64 (A * B) = A * B := by have := prod_small lA lB; unfold wrap64; omega
  obtain ⟨s, hadd, rs, ls, is, es⟩ := whole_add lA lB
  obtain ⟨p, hmul, rp, lp, ip, ep⟩ := whole_mul lA lB
  obtain ⟨iA, eA, rA⟩ := whole_back lA
  obtain ⟨iB, eB, rB⟩ := whole_back lB
  have fA := fromI_lt A
  have fB := fromI_lt B
  obtain ⟨x, hx⟩ : ∃ x : Int, ((fromI A : Nat) : Int) = x := ⟨_, rfl⟩
  obtain ⟨y, hy⟩ : ∃ y : Int, ((fromI B : Nat) : Int) = y := ⟨_, rfl⟩
  obtain ⟨S, hS⟩ : ∃ y : Int, (s : Int) = y := ⟨_, rfl⟩
  obtain ⟨P, hP⟩ : ∃ y : Int, (p : Int) = y := ⟨_, rfl⟩
  have hxn : x.toNat = fromI A := by omega
  have hyn : y.toNat = fromI B := by omega
  have hSn : S.toNat = s := by omega
  have hPn : P.toNat = p := by omega
  have nA : ¬ 9218868437227405312 < rg (fromI A) := by omega
  have nB : ¬ 9218868437227405312 < rg (fromI B) := by omega
  have ns : ¬ 9218868437227405312 < rg s := by omega
  have np : ¬ 9218868437227405312 < rg p := by omega
  have k1 : reck 1 (fromI A) (fromI B) = s := reck_of nA nB (Or.inl ⟨rfl, hadd⟩)
  have k3 : reck 3 (fromI A) (fromI B) = p := reck_of nA nB (Or.inr (Or.inr (Or.inl ⟨rfl, hmul⟩)))
  have g1 := from_at A hx
  have g2 := from_at B hy
  have d0 := toint_at x (v := A) (z := 0) (by rw [hxn, iA]) (by rw [hxn, eA])
  have d1 := do_at 1 x y (by omega) (by omega) (by omega) (by omega) (x := S) (t := 0) (z := 0) (by rw [hxn, hyn, doR_of nA nB (Or.inl ⟨rfl, hadd⟩), hS]) (by rw [hxn, hyn]; unfold doT; rw [if_neg (by omega), k1]; exact tells_of nA nB ns (fun k => by omega) (fun k => absurd k (cls_fin rs))) (doE_ok (by omega) (by omega))
  have d3 := do_at 3 x y (by omega) (by omega) (by omega) (by omega) (x := P) (t := 0) (z := 0) (by rw [hxn, hyn, doR_of nA nB (Or.inr (Or.inr (Or.inl ⟨rfl, hmul⟩))), hP]) (by rw [hxn, hyn]; unfold doT; rw [if_neg (by omega), k3]; exact tells_of nA nB np (fun k => by omega) (fun k => absurd k (cls_fin rp))) (doE_ok (by omega) (by omega))
  have d4 := toint_at S (v := A + B) (z := 0) (by rw [hSn, is]) (by rw [hSn, es])
  have d5 := toint_at P (v := A * B) (z := 0) (by rw [hPn, ip]) (by rw [hPn, ep])
  clear w0 w1 lA lB hadd rs ls is es hmul rp lp ip ep iA eA rA iB eB rB fA fB hx hy hS hP hxn hyn hSn hPn nA nB ns np k1 k3
  go_enter Try.func8, Try.ntmps8
  go_wp2_with fail
  refine (g1.out _).mono ?_
  rintro e w' ⟨rfl, rfl⟩
  go_wp2_with fail
  refine (g2.out _).mono ?_
  rintro e w' ⟨rfl, rfl⟩
  go_wp2_with fail
  refine (d0.out _).mono ?_
  rintro e w' ⟨rfl, nd0, rfl⟩
  go_wp2_with fail
  refine (d1.out _).mono ?_
  rintro e w' ⟨rfl, nd1, rfl⟩
  go_wp2_with fail
  refine (d3.out _).mono ?_
  rintro e w' ⟨rfl, nd3, rfl⟩
  go_wp2_with fail
  refine (d4.out _).mono ?_
  rintro e w' ⟨rfl, nd4, rfl⟩
  go_wp2_with fail
  refine (d5.out _).mono ?_
  rintro e w' ⟨rfl, nd5, rfl⟩
  go_wp2_with fail
  refine (awake_any _).mono ?_
  rintro e w' ⟨rfl, na, rfl⟩
  go_wp2_with fail
  go_ret
  exact ⟨rfl, grown_drewN (Grown.refl _) _⟩

set_option maxRecDepth 100000 in
theorem lifted (os : Os) (started : os.Started) (H : Type) (enc : TypeId × Value → H) :
    ReturnsInHanded {} Try.checked os 8 .any (Rows.fltWholeSpec.pre6 enc Try.prog Try.f8 Rows.fltWholeRow.domain false) (Rows.fltWholeSpec.post enc Try.prog Try.f8 false true false false) := by
  refine returnsInHanded_of_change (C := Try.checked) own started (by kernel_rfl) Try.func8
    (ChangeSpec.witness6 (enc := enc) (C := Try.checked) false ⟨#[], #[.int .i64 0, .int .i64 0], []⟩ 8 (by kernel_rfl) (by kernel_rfl) (by kernel_rfl) (by kernel_rfl)) ?_
  intro W base args ds gs before hval0 hW hcnd _
  have hval : ∀ (j : Nat) t v, Try.f8.params[j]? = some t → args[j]? = some v → Value.okWide Try.prog W .any base t v := hval0
  have hW' := hW
  obtain ⟨p, q, hA0, hV, rfl, hfz, hnd⟩ := hW
  have hA : DataW.TrodAll enc Try.prog W 0 (fun _ => true) true Try.f8.params.toList args.toList ds p := hA0
  rw [Try.params8] at hA hval
  obtain ⟨v0, vs0, d0, ds0, p0, q0, hargs, rfl, rfl, h0, r0⟩ := trodAll_cons hA
  obtain ⟨v1, vs1, d1, ds1, p1, q1, rfl, rfl, rfl, h1, r1⟩ := trodAll_cons r0
  obtain ⟨rfl, rfl, rfl⟩ := trodAll_nil r1
  obtain rfl : args = #[v0, v1] := by cases args; simp_all
  obtain ⟨rfl, rfl⟩ := trodVars_none hV
  obtain ⟨a0, rfl, rfl, rfl, w0⟩ := open_int Try.underlying2 (hval 0 2 v0 rfl rfl) h0
  obtain ⟨a1, rfl, rfl, rfl, w1⟩ := open_int Try.underlying2 (hval 1 2 v1 rfl rfl) h1
  clear hA0 hval0
  simp only [List.append_nil] at hW'
  refine (walk a0 a1 w0 w1 W).mono fun e W' ⟨he, hg⟩ => ?_
  subst he
  exact ⟨_, rfl, post_of_same (pa := []) (pv := []) hW' (fun _ _ _ => (trodAll_cons_mk (shut_bool Try.underlying4 _) trodAll_mk0)) (fun sp _ => (trodAll_cons_mk (shut_int Try.underlying2 w0) (trodAll_cons_mk (shut_int Try.underlying2 w1) trodAll_mk0))) (fun _ _ => rfl) rfl
    (hg.frame _) hg.2.1 (ok_one (by kernel_rfl) rfl (okWide_bool_mk Try.underlying4 _))⟩

theorem over : Rows.fltWholeRow.holds Try.pinned (OpenSpec.ofChange Rows.fltWholeSpec) :=
  OpenClaim.holds_of_wide 8 Try.f8 rfl rfl rfl rfl rfl rfl rfl ⟨rfl, rfl, rfl, rfl, rfl⟩ rfl rfl rfl rfl rfl (by kernel_rfl) Try.func8 (by kernel_rfl)
    (of_decide_eq_true (by kernel_rfl)) (by unfold Func.isWrapper; first | (rw [if_pos (by decide +kernel)]; kernel_rfl) | (rw [if_neg (by decide +kernel)]; exact ⟨rfl, rfl⟩))
    (fun os started H enc _ => lifted os started H enc)

theorem proved : Rows.FltWholeSaid :=
  over
#print axioms proved
end Go.Proofs.Ytpfmkhnogobioab.fltWhole
