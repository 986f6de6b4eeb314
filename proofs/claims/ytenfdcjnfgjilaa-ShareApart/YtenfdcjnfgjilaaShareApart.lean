/- For any calls, two processes and a page: what processes do among themselves changes no grant of another one; any 60 calls of which none is of it; no condition. -/
import Derived.Test.YtenfdcjnfgjilaaRows
import Derived.ProofKit
import Derived.OpenShut
import Derived.Carry
import Derived.Test.YtenfdcjnfgjilaaSM
import Derived.Test.YtenfdcjnfgjilaaSX
namespace Go.Proofs.Ytenfdcjnfgjilaa.shareApart
open Go.ChangeShapes Go.WideShapes Go.ChangeAt Go.RowKit Go.Maps
set_option linter.unusedSimpArgs false
set_option linter.unusedVariables false

set_option maxRecDepth 8000 in
set_option maxHeartbeats 16000000 in
theorem walk (p0 : Option Addr) (n0 c0 : Nat) (A0 : Nat → Ac) (m0 : n0 ≤ maxLen) (a1 : Int) (w1 : (Lit.int .i64 a1).wf = true) (a2 : Int) (w2 : (Lit.int .i64 a2).wf = true) (a3 : Int) (w3 : (Lit.int .i64 a3).wf = true) (w : World) (H0 : IsActs w p0 n0 A0) :
    Calls Try.prog 4 #[.slice p0 n0 c0, .int .i64 a1, .int .i64 a2, .int .i64 a3] w fun e w' => e = .returned (.bool true) ∧ Below w.heap.size w w' := by
  have AW : Hid (∀ W : World, Calls Try.prog 8 #[] W fun e w' => e = .returned (.bool true) ∧ Below W.heap.size W w') := fun W => awake_any W
  have DO : Hid (∀ (T : Nat → Gr) (K A B P : Int) (X : Bool) (W : World), IsTab W w.heap.size T → Calls Try.prog 9 #[.pointer (some ⟨w.heap.size, 0, none⟩), .slice none 0 0, .agg #[.int .i64 K, .int .i64 A, .int .i64 B, .int .i64 P, .bool X]] W fun e w' => (∃ v, e = .returned v) ∧ IsTab w' w.heap.size (doesT T K A B P X) ∧ W.grownBy w' (some w.heap.size)) := fun T K A B P X W h => does_nil w.heap.size T K A B P X W h
  obtain ⟨Zs, hz, hs, hzz⟩ := zeroT
  have M : Hid (Own w (w.alloc (.cells Zs 27)) w.heap.size zT) := ⟨IsTab.made w Zs hs hzz, Go.Joins.below_alloc1 _ _, Nat.le_refl _⟩
  have HA : Hid (IsActs w p0 n0 A0) := H0
  clear H0 hs hzz
  have mm : (n0 : Int) ≤ 9223372036854775807 := by have : maxLen ≤ 9223372036854775807 := by decide +kernel
                                                   omega
  by_cases k0 : a1 < 0
  · have e0 : decide (a1 < 0) = true := by simp [k0]
    skip
    go_enter Try.func4, Try.ntmps4
    go_wp2_with fail
    refine (AW.out _).mono ?_
    rintro e u1 ⟨rfl, hb1⟩
    have B1 : Hid (Below w.heap.size w u1) := below_then (Go.Joins.below_alloc1 _ _) hb1
    clear hb1
    go_wp2_with fail
    go_ret
    exact ⟨rfl, B1.out⟩
  have e0 : decide (a1 < 0) = false := by simp; omega
  by_cases k1 : 15 < a1
  · have e1 : decide (15 < a1) = true := by simp [k1]
    skip
    go_enter Try.func4, Try.ntmps4
    go_wp2_with fail
    refine (AW.out _).mono ?_
    rintro e u1 ⟨rfl, hb1⟩
    have B1 : Hid (Below w.heap.size w u1) := below_then (Go.Joins.below_alloc1 _ _) hb1
    clear hb1
    go_wp2_with fail
    go_ret
    exact ⟨rfl, B1.out⟩
  have e1 : decide (15 < a1) = false := by simp; omega
  by_cases k2 : a3 < 0
  · have e2 : decide (a3 < 0) = true := by simp [k2]
    skip
    go_enter Try.func4, Try.ntmps4
    go_wp2_with fail
    refine (AW.out _).mono ?_
    rintro e u1 ⟨rfl, hb1⟩
    have B1 : Hid (Below w.heap.size w u1) := below_then (Go.Joins.below_alloc1 _ _) hb1
    clear hb1
    go_wp2_with fail
    go_ret
    exact ⟨rfl, B1.out⟩
  have e2 : decide (a3 < 0) = false := by simp; omega
  by_cases k3 : 15 < a3
  · have e3 : decide (15 < a3) = true := by simp [k3]
    skip
    go_enter Try.func4, Try.ntmps4
    go_wp2_with fail
    refine (AW.out _).mono ?_
    rintro e u1 ⟨rfl, hb1⟩
    have B1 : Hid (Below w.heap.size w u1) := below_then (Go.Joins.below_alloc1 _ _) hb1
    clear hb1
    go_wp2_with fail
    go_ret
    exact ⟨rfl, B1.out⟩
  have e3 : decide (15 < a3) = false := by simp; omega
  by_cases k4 : a1 = a3
  · have e4 : (a1 == a3) = true := by simp [k4]
    clear k4
    go_enter Try.func4, Try.ntmps4
    go_wp2_with fail
    refine (AW.out _).mono ?_
    rintro e u1 ⟨rfl, hb1⟩
    have B1 : Hid (Below w.heap.size w u1) := below_then (Go.Joins.below_alloc1 _ _) hb1
    clear hb1
    go_wp2_with fail
    go_ret
    exact ⟨rfl, B1.out⟩
  have e4 : (a1 == a3) = false := by simp [k4]
  by_cases k5 : a2 < 0
  · have e5 : decide (a2 < 0) = true := by simp [k5]
    skip
    go_enter Try.func4, Try.ntmps4
    go_wp2_with fail
    refine (AW.out _).mono ?_
    rintro e u1 ⟨rfl, hb1⟩
    have B1 : Hid (Below w.heap.size w u1) := below_then (Go.Joins.below_alloc1 _ _) hb1
    clear hb1
    go_wp2_with fail
    go_ret
    exact ⟨rfl, B1.out⟩
  have e5 : decide (a2 < 0) = false := by simp; omega
  by_cases k6 : 34359738368 ≤ a2
  · have e6 : decide (34359738368 ≤ a2) = true := by simp [k6]
    skip
    go_enter Try.func4, Try.ntmps4
    go_wp2_with fail
    refine (AW.out _).mono ?_
    rintro e u1 ⟨rfl, hb1⟩
    have B1 : Hid (Below w.heap.size w u1) := below_then (Go.Joins.below_alloc1 _ _) hb1
    clear hb1
    go_wp2_with fail
    go_ret
    exact ⟨rfl, B1.out⟩
  have e6 : decide (34359738368 ≤ a2) = false := by simp; omega
  obtain ⟨p, rfl⟩ : ∃ p : Nat, a1 = p := ⟨a1.toNat, by omega⟩
  have hp : p < 16 := by omega
  have hB : offB p a2 a3 = false := by
    unfold offB isProc isPage
    rw [e4]
    simp
    omega
  have OF : Hid (∀ W : World, IsTab W w.heap.size zT → Calls Try.prog 17 #[.pointer (some ⟨w.heap.size, 0, none⟩), .int .i64 p, .int .i64 a2, .int .i64 a3, .bool true] W fun e w' => e = .returned (.tuple #[.int .i64 (16 * (p : Int)), .int .i64 0]) ∧ IsTab w' w.heap.size (putT zT (p * 16) ⟨p, a2, a3, true, false, 0⟩) ∧ W.grownBy w' (some w.heap.size)) := fun W h => by
    have := offer_any w.heap.size zT p a2 a3 true W h
    obtain ⟨h1, h2, h3⟩ := off_first p a2 a3 hp hB
    rw [h1, h2, h3] at this; exact this
  have GT : Hid (∀ (T : Nat → Gr), T (p * 16) = ⟨p, a2, a3, true, false, 0⟩ → ∀ W : World, IsTab W w.heap.size T → Calls Try.prog 14 #[.pointer (some ⟨w.heap.size, 0, none⟩), .int .i64 (16 * (p : Int))] W fun e w' => e = .returned (.tuple #[.agg #[.int .i64 p, .int .i64 a2, .int .i64 a3, .bool true, .bool false, .int .i64 0], .bool true]) ∧ Below W.heap.size W w') := fun T hT W h => by
    have hg : getG T (16 * (p : Int)) = ⟨p, a2, a3, true, false, 0⟩ := by
      unfold getG; rw [if_pos (by omega), show (16 * (p : Int)).toNat = p * 16 by omega, hT]
    have := get_any w.heap.size T (16 * (p : Int)) W h
    rw [hg] at this
    have hi : Gr.is ⟨p, a2, a3, true, false, 0⟩ = true := by unfold Gr.is; simp only; rw [e4]; rfl
    rw [hi] at this
    exact this
  have OL : Hid (∀ (T : Nat → Gr), T (p * 16) = ⟨p, a2, a3, true, false, 0⟩ → ∀ W : World, IsTab W w.heap.size T → Calls Try.prog 10 #[.pointer (some ⟨w.heap.size, 0, none⟩), .int .i64 p] W fun e w' => (∃ q c m, 1 ≤ m ∧ e = .returned (.slice q m c)) ∧ Below W.heap.size W w') := fun T hT W h => (of_call w.heap.size T p W h).mono fun e w' ⟨⟨q, c, h1, _⟩, h3⟩ => ⟨⟨q, c, _, of_pos T p (p * 16) (by omega) (by rw [hT]; unfold ofP Gr.is; simp only; rw [e4]; simp), h1⟩, h3⟩
  have KP : Hid (∀ (T : Nat → Gr), T (p * 16) = ⟨p, a2, a3, true, false, 0⟩ → ∀ (K A B P : Int) (X : Bool), A ≠ p → A ≠ a3 → A.tdiv 16 ≠ p → doesT T K A B P X (p * 16) = ⟨p, a2, a3, true, false, 0⟩) := fun T hT K A B P X h1 h2 h3 => does_keep hp hT K A B P X h1 h2 h3
  have P1 : Hid (putT zT (p * 16) ⟨p, a2, a3, true, false, 0⟩ (p * 16) = ⟨p, a2, a3, true, false, 0⟩) := put_same _ _ _
  clear k0 k1 k2 k3 k5 k6 hB
  go_enter Try.func4, Try.ntmps4
  go_wp2_with fail
  refine (OF.out _ M.out.1).mono ?_
  rintro e u0 ⟨rfl, h1, h2⟩
  have M0 : Hid (Own w u0 w.heap.size (putT zT (p * 16) ⟨p, a2, a3, true, false, 0⟩)) := M.out.next h1 h2
  clear h1 h2 M OF
  go_wp2_with fail
  go_loopw [12] (fun x W => ∃ (k : Nat) (T : Nat → Gr), k ≤ n0 ∧ k ≤ 60 ∧ x = .int .i64 k ∧ Hid (Own w W w.heap.size T ∧ T (p * 16) = ⟨p, a2, a3, true, false, 0⟩)) (fun x _ => 60 - (intOf x).toNat)
  case atStart => exact ⟨0, _, by omega, by omega, rfl, M0.out, P1.out⟩
  case round =>
    obtain ⟨k, T, hk, hk6, rfl, hM⟩ := hrel
    by_cases hlt : k < n0 ∧ k < 60
    · have hd : decide ((k : Int) < (n0 : Int)) = true := by simp; omega
      have hd2 : decide ((k : Int) < 60) = true := by simp; omega
      obtain ⟨b, o, rfl, lb, cc, fit⟩ := HA.out k hlt.1
      generalize A0 k = ac at cc fit
      obtain ⟨ak, aa, ab, ap, ax⟩ := ac
      have fa : -9223372036854775808 ≤ aa ∧ aa ≤ 9223372036854775807 := fit.2.1
      clear fit
      have lb' : b < wr.heap.size := Nat.lt_of_lt_of_le lb hM.out.1.2.1.size
      have c0 : wr.cell? ⟨b, o + k * 5, none⟩ = some (.int .i64 ak) := (hM.out.1.2.1.cell (p := ⟨b, _, none⟩) lb).trans (cc 0 _ rfl)
      have c1 : wr.cell? ⟨b, o + k * 5 + 1, none⟩ = some (.int .i64 aa) := (hM.out.1.2.1.cell (p := ⟨b, _, none⟩) lb).trans (cc 1 _ rfl)
      have c2 : wr.cell? ⟨b, o + k * 5 + 2, none⟩ = some (.int .i64 ab) := (hM.out.1.2.1.cell (p := ⟨b, _, none⟩) lb).trans (cc 2 _ rfl)
      have c3 : wr.cell? ⟨b, o + k * 5 + 3, none⟩ = some (.int .i64 ap) := (hM.out.1.2.1.cell (p := ⟨b, _, none⟩) lb).trans (cc 3 _ rfl)
      have c4 : wr.cell? ⟨b, o + k * 5 + 4, none⟩ = some (.bool ax) := (hM.out.1.2.1.cell (p := ⟨b, _, none⟩) lb).trans (cc 4 _ rfl)
      clear cc lb
      by_cases g0 : aa = (p : Int)
      · have f0 : (aa == (p : Int)) = true := by simp [g0]
        clear g0
        go_wp2_with fail
        go_roundw
        case rel => exact ⟨k + 1, _, by omega, by omega, by go_num, hM.out.1.grow (Go.Joins.below_alloc1 _ _), hM.out.2⟩
        case measure => simp [intOf]; omega
      have f0 : (aa == (p : Int)) = false := by simp [g0]
      by_cases g1 : aa = a3
      · have f1 : (aa == a3) = true := by simp [g1]
        clear g1
        go_wp2_with fail
        go_roundw
        case rel => exact ⟨k + 1, _, by omega, by omega, by go_num, hM.out.1.grow (Go.Joins.below_alloc1 _ _), hM.out.2⟩
        case measure => simp [intOf]; omega
      have f1 : (aa == a3) = false := by simp [g1]
      by_cases g2 : ab = (p : Int)
      · have f2 : (ab == (p : Int)) = true := by simp [g2]
        clear g2
        go_wp2_with fail
        go_roundw
        case rel => exact ⟨k + 1, _, by omega, by omega, by go_num, hM.out.1.grow (Go.Joins.below_alloc1 _ _), hM.out.2⟩
        case measure => simp [intOf]; omega
      have f2 : (ab == (p : Int)) = false := by simp [g2]
      by_cases g3 : ab = a3
      · have f3 : (ab == a3) = true := by simp [g3]
        clear g3
        go_wp2_with fail
        go_roundw
        case rel => exact ⟨k + 1, _, by omega, by omega, by go_num, hM.out.1.grow (Go.Joins.below_alloc1 _ _), hM.out.2⟩
        case measure => simp [intOf]; omega
      have f3 : (ab == a3) = false := by simp [g3]
      obtain ⟨dv, hdv⟩ : ∃ z, aa.tdiv 16 = z := ⟨_, rfl⟩
      have hdb : -9223372036854775808 ≤ dv ∧ dv ≤ 9223372036854775807 := by
        rw [← hdv, Int.tdiv_eq_ediv]
        have : Int.sign 16 = 1 := rfl
        split <;> omega
      have hdb1 := hdb.1
      have hdb2 := hdb.2
      have hw : wrap64 dv = dv := by unfold wrap64; omega
      by_cases g4 : dv = (p : Int)
      · have f4 : (dv == (p : Int)) = true := by simp [g4]
        clear g4
        go_wp2_with fail
        go_roundw
        case rel => exact ⟨k + 1, _, by omega, by omega, by go_num, hM.out.1.grow (Go.Joins.below_alloc1 _ _), hM.out.2⟩
        case measure => simp [intOf]; omega
      have f4 : (dv == (p : Int)) = false := by simp [g4]
      have HK : Hid (doesT T ak aa ab ap ax (p * 16) = ⟨p, a2, a3, true, false, 0⟩) := KP.out T hM.out.2 ak aa ab ap ax g0 g1 (by rw [hdv]; exact g4)
      go_wp2_with fail
      refine (DO.out T ak aa ab ap ax _ (hM.out.1.grow (Go.Joins.below_alloc1 _ _)).1).mono ?_
      rintro e u1 ⟨⟨v, rfl⟩, h1, h2⟩
      have M1 : Hid (Own w u1 w.heap.size (doesT T ak aa ab ap ax)) := (hM.out.1.grow (Go.Joins.below_alloc1 _ _)).next h1 h2
      clear h1 h2 c0 c1 c2 c3 c4 lb'
      go_wp2_with fail
      refine (GT.out _ HK.out _ M1.out.1).mono ?_
      rintro e u2 ⟨rfl, hb⟩
      have M2 : Hid (Own w u2 w.heap.size (doesT T ak aa ab ap ax)) := M1.out.grow hb
      clear hb M1
      go_wp2_with fail
      go_roundw
      case rel => exact ⟨k + 1, _, by omega, by omega, by go_num, M2.out.grow (Go.Joins.below_alloc1 _ _), HK.out⟩
      case measure => simp [intOf]; omega
    · have hQ : (k < n0 ∧ ¬ k < 60) ∨ ¬ k < n0 := by omega
      clear hlt DO HA GT KP
      rcases hQ with ⟨hq, hq2⟩ | hq
      · have hd : decide ((k : Int) < (n0 : Int)) = true := by simp; omega
        have hd2 : decide ((k : Int) < 60) = false := by simp; omega
        go_wp2_with fail
        refine (AW.out _).mono ?_
        rintro e u1 ⟨rfl, hb⟩
        have M1 := hM.out.1.grow hb
        have H1 : Hid (Own w u1 w.heap.size T) := M1
        clear hb M1
        go_wp2_with fail
        refine (OL.out _ hM.out.2 _ H1.out.1).mono ?_
        rintro e u2 ⟨⟨q, c, m, hm, rfl⟩, hb⟩
        have H2 : Hid (Own w u2 w.heap.size T) := H1.out.grow hb
        have hm1 : decide ((1 : Int) ≤ (m : Int)) = true := by simp; omega
        clear hb H1
        go_wp2_with fail
        go_ret
        exact ⟨rfl, H2.out.2.1⟩
      · have hd : decide ((k : Int) < (n0 : Int)) = false := by simp; omega
        go_wp2_with fail
        refine (AW.out _).mono ?_
        rintro e u1 ⟨rfl, hb⟩
        have M1 := hM.out.1.grow hb
        have H1 : Hid (Own w u1 w.heap.size T) := M1
        clear hb M1
        go_wp2_with fail
        refine (OL.out _ hM.out.2 _ H1.out.1).mono ?_
        rintro e u2 ⟨⟨q, c, m, hm, rfl⟩, hb⟩
        have H2 : Hid (Own w u2 w.heap.size T) := H1.out.grow hb
        have hm1 : decide ((1 : Int) ≤ (m : Int)) = true := by simp; omega
        clear hb H1
        go_wp2_with fail
        go_ret
        exact ⟨rfl, H2.out.2.1⟩

theorem own : ownKnob Try.prog.godebug = none := by kernel_rfl
theorem laidOut : laidOutB Try.prog = true := by kernel_rfl
set_option maxRecDepth 100000 in
theorem lifted (os : Os) (started : os.Started) (H : Type) (enc : TypeId × Value → H) :
    ReturnsInHanded {} Try.checked os 4 .any (Rows.shareApartSpec.pre6 enc Try.prog Try.f4 Rows.shareApartRow.domain false) (Rows.shareApartSpec.post enc Try.prog Try.f4 false true false false) := by
  refine returnsInHanded_of_change (C := Try.checked) own started (by kernel_rfl) Try.func4
    (ChangeSpec.witness6 (enc := enc) (C := Try.checked) false ⟨#[], #[.slice none 0 0, .int .i64 0, .int .i64 0, .int .i64 0], []⟩ 8 (by kernel_rfl) (by kernel_rfl) (by kernel_rfl) (by kernel_rfl)) ?_
  intro W base args ds gs before hval0 hW hcnd _
  have hval : ∀ (j : Nat) t v, Try.f4.params[j]? = some t → args[j]? = some v → Value.okWide Try.prog W .any base t v := hval0
  have hW' := hW
  obtain ⟨p, q, hA0, hV, hbef, hfz, hnd⟩ := hW
  have hA : DataW.TrodAll enc Try.prog W 0 (fun _ => true) true Try.f4.params.toList args.toList ds p := hA0
  have hAk := hA
  have hlt : ∀ x ∈ p, x.block < W.heap.size := fun x hx => hW'.lt x (by rw [hbef]; exact List.mem_append_left _ hx)
  rw [Try.params4] at hA hval
  obtain ⟨v0, vs0, d0, ds0, p0, q0, hargs, rfl, hp0, h0, r0⟩ := trodAll_cons hA
  obtain ⟨v1, vs1, d1, ds1, p1, q1, rfl, rfl, hp1, h1, r1⟩ := trodAll_cons r0
  obtain ⟨v2, vs2, d2, ds2, p2, q2, rfl, rfl, hp2, h2, r2⟩ := trodAll_cons r1
  obtain ⟨v3, vs3, d3, ds3, p3, q3, rfl, rfl, hp3, h3, r3⟩ := trodAll_cons r2
  obtain ⟨rfl, rfl, hpz⟩ := trodAll_nil r3
  obtain rfl : args = #[v0, v1, v2, v3] := by cases args; simp_all
  obtain ⟨rfl, rfl⟩ := trodVars_none hV
  obtain ⟨p0, n0, c0, A0, rfl, m0, H0⟩ := open_acts (hval 0 22 v0 rfl rfl) h0
  obtain ⟨a1, rfl, _, _, w1⟩ := open_int Try.underlying3 (hval 1 3 v1 rfl rfl) h1
  obtain ⟨a2, rfl, _, _, w2⟩ := open_int Try.underlying3 (hval 2 3 v2 rfl rfl) h2
  obtain ⟨a3, rfl, _, _, w3⟩ := open_int Try.underlying3 (hval 3 3 v3 rfl rfl) h3
  clear hA0 hval0
  refine (walk p0 n0 c0 A0 m0 a1 w1 a2 w2 a3 w3 W H0).mono fun e W' ⟨he, hg⟩ => ?_
  subst he
  exact ⟨_, rfl, ⟨_, _, _, [], p, [], hW', (trodAll_cons_mk (shut_bool Try.underlying4 _) trodAll_mk0), args_stay laidOut hg (by kernel_rfl) hAk hlt, rfl, hg.frame _, fun h => by cases h⟩⟩

theorem over : Rows.shareApartRow.holds Try.pinned (OpenSpec.ofChange Rows.shareApartSpec) :=
  OpenClaim.holds_of_wide 4 Try.f4 rfl rfl rfl rfl rfl rfl rfl ⟨rfl, rfl, rfl, rfl, rfl⟩ rfl rfl rfl rfl rfl (by kernel_rfl) Try.func4 (by kernel_rfl)
    (of_decide_eq_true (by kernel_rfl)) (by unfold Func.isWrapper; first | (rw [if_pos (by decide +kernel)]; kernel_rfl) | (rw [if_neg (by decide +kernel)]; exact ⟨rfl, rfl⟩))
    (fun os started H enc _ => lifted os started H enc)

theorem proved : Rows.ShareApartSaid :=
  over
#print axioms proved
end Go.Proofs.Ytenfdcjnfgjilaa.shareApart
