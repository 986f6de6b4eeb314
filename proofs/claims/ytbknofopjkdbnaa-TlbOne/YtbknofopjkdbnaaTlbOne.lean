/- For any calls, any tag and page: behind each of any 60 calls at most one line fits the tag and the page, it is what is found, and there are at most 16 lines; no condition. -/
import Derived.Test.YtbknofopjkdbnaaRows
import Derived.ProofKit
import Derived.OpenShut
import Derived.Carry
import Derived.Test.YtbknofopjkdbnaaU4
namespace Go.Proofs.Ytbknofopjkdbnaa.tlbOne
open Go.ChangeShapes Go.WideShapes Go.ChangeAt Go.RowKit Go.Maps
set_option linter.unusedSimpArgs false
set_option linter.unusedVariables false

set_option maxRecDepth 8000 in
set_option maxHeartbeats 4000000 in
theorem walk (p0 : Option Addr) (n0 c0 : Nat) (K0 A0 C0 : Nat → Int) (L0 : Nat → Ln) (m0 : n0 ≤ maxLen) (a1 : Int) (w1 : (Lit.int .i64 a1).wf = true) (a2 : Int) (w2 : (Lit.int .i64 a2).wf = true) (w : World) (H0 : IsActs w p0 n0 K0 A0 C0 L0) :
    Calls Try.prog 4 #[.slice p0 n0 c0, .int .i64 a1, .int .i64 a2] w fun e w' => e = .returned (.bool true) ∧ Below w.heap.size w w' := by
  have AW : Hid (∀ W : World, Calls Try.prog 9 #[] W fun e w' => e = .returned (.bool true) ∧ Below W.heap.size W w') := fun W => awake_any W
  obtain ⟨Zs, hz, hs, hzz⟩ := zero30
  have M0 : Hid (Own w (w.alloc (.cells Zs 30)) w.heap.size T0) := ⟨IsTlb.made w Zs hs hzz, Go.Joins.below_alloc1 _ _, Nat.le_refl _⟩
  have DO : Hid (∀ (T : Nat → Ln) (k a c : Int) (v : Bool) (t p f : Int) (lw lu lx g d : Bool) (W : World), IsTlb W w.heap.size T → Calls Try.prog 10 #[.pointer (some ⟨w.heap.size, 0, none⟩), .slice none 0 0, .agg #[.int .i64 k, .int .i64 a, .int .i64 c, .bool v, .int .i64 t, .int .i64 p, .int .i64 f, .bool lw, .bool lu, .bool lx, .bool g, .bool d]] W fun e w' => (∃ r, e = .returned r) ∧ IsTlb w' w.heap.size (doesL T k a c ⟨v, t, p, f, lw, lu, lx, g, d⟩) ∧ W.grownBy w' (some w.heap.size)) := fun T k a c v t p f lw lu lx g d W h => does_any w.heap.size T k a c v t p f lw lu lx g d W h
  have LC : Hid (∀ (T : Nat → Ln) (W : World), IsTlb W w.heap.size T → Calls Try.prog 11 #[.pointer (some ⟨w.heap.size, 0, none⟩)] W fun e w' => (∃ p c, e = .returned (.slice p (linesT T 16).length c) ∧ IsLines w' W.heap.size p (linesT T 16)) ∧ Below W.heap.size W w') := fun T W h => lines_call w.heap.size T W h
  have FC : Hid (∀ (T : Nat → Ln) (tag page : Int) (W : World), IsTlb W w.heap.size T → Calls Try.prog 13 #[.pointer (some ⟨w.heap.size, 0, none⟩), .int .i64 tag, .int .i64 page] W fun e w' => e = .returned (.tuple #[(findT T tag page).1.val, .bool (findT T tag page).2]) ∧ Below W.heap.size W w') := fun T tag page W h => find_any w.heap.size T tag page W h
  have HA : Hid (IsActs w p0 n0 K0 A0 C0 L0) := H0
  clear H0 hs hzz
  have mm : (n0 : Int) ≤ 9223372036854775807 := by have : maxLen ≤ 9223372036854775807 := by decide +kernel
                                                   omega
  go_enter Try.func4, Try.ntmps4
  go_wp2_with fail
  go_loopw [8] (fun x W => ∃ (k : Nat) (T : Nat → Ln), k ≤ n0 ∧ k ≤ 60 ∧ x = .int .i64 k ∧ Hid (Own w W w.heap.size T) ∧ Hid (GoodL T)) (fun x _ => 60 - (intOf x).toNat)
  case atStart => exact ⟨0, _, by omega, by omega, rfl, M0, good_zero⟩
  case round =>
    obtain ⟨k, T, hk, hk6, rfl, hM, hG⟩ := hrel
    by_cases hlt : k < n0 ∧ k < 60
    · have hd : decide ((k : Int) < (n0 : Int)) = true := by simp; omega
      have hd2 : decide ((k : Int) < 60) = true := by simp; omega
      obtain ⟨b, o, rfl, lb, rg⟩ := (HA.out.below hM.out.2.1) k hlt.1
      generalize K0 k = ak at rg
      generalize A0 k = aa at rg
      generalize C0 k = ac at rg
      generalize L0 k = ln at rg
      obtain ⟨lv, lt, lp, lf, lw, lu, lx, lg, ld⟩ := ln
      have z0 : wr.cell? ⟨b, o + k * 12, none⟩ = some (.int .i64 ak) := rg 0 _ rfl
      have z1 : wr.cell? ⟨b, o + k * 12 + 1, none⟩ = some (.int .i64 aa) := rg 1 _ rfl
      have z2 : wr.cell? ⟨b, o + k * 12 + 2, none⟩ = some (.int .i64 ac) := rg 2 _ rfl
      have z3 : wr.cell? ⟨b, o + k * 12 + 3, none⟩ = some (.bool lv) := rg 3 _ rfl
      have z4 : wr.cell? ⟨b, o + k * 12 + 4, none⟩ = some (.int .i64 lt) := rg 4 _ rfl
      have z5 : wr.cell? ⟨b, o + k * 12 + 5, none⟩ = some (.int .i64 lp) := rg 5 _ rfl
      have z6 : wr.cell? ⟨b, o + k * 12 + 6, none⟩ = some (.int .i64 lf) := rg 6 _ rfl
      have z7 : wr.cell? ⟨b, o + k * 12 + 7, none⟩ = some (.bool lw) := rg 7 _ rfl
      have z8 : wr.cell? ⟨b, o + k * 12 + 8, none⟩ = some (.bool lu) := rg 8 _ rfl
      have z9 : wr.cell? ⟨b, o + k * 12 + 9, none⟩ = some (.bool lx) := rg 9 _ rfl
      have z10 : wr.cell? ⟨b, o + k * 12 + 10, none⟩ = some (.bool lg) := rg 10 _ rfl
      have z11 : wr.cell? ⟨b, o + k * 12 + 11, none⟩ = some (.bool ld) := rg 11 _ rfl
      clear rg
      go_wp2_with fail
      refine (DO.out T ak aa ac lv lt lp lf lw lu lx lg ld _ hM.out.1).mono ?_
      rintro e u1 ⟨⟨v, rfl⟩, h1, h2⟩
      have M1 : Hid (Own w u1 w.heap.size (doesL T ak aa ac ⟨lv, lt, lp, lf, lw, lu, lx, lg, ld⟩)) := hM.out.next h1 h2
      have G1 : Hid (GoodL (doesL T ak aa ac ⟨lv, lt, lp, lf, lw, lu, lx, lg, ld⟩)) := hG.out.does _ _ _ _
      clear h1 h2 lb z0 z1 z2 z3 z4 z5 z6 z7 z8 z9 z10 z11
      generalize doesL T ak aa ac ⟨lv, lt, lp, lf, lw, lu, lx, lg, ld⟩ = T2 at M1 G1
      have OS := one_says G1.out a1 a2
      have LC2 := LC.out T2
      have FC2 := FC.out T2 a1 a2
      have ll : (linesT T2 16).length ≤ 16 := lines_len T2 16
      generalize findT T2 a1 a2 = ff at OS FC2
      obtain ⟨fl, fb⟩ := ff
      obtain ⟨fv, ft, fp, ffr, fw, fu, fx, fg, fd⟩ := fl
      simp only at OS FC2
      have OS' : Hid _ := OS
      have LC' : Hid (∀ W : World, IsTlb W w.heap.size T2 → Calls Try.prog 11 #[.pointer (some ⟨w.heap.size, 0, none⟩)] W fun e w' => (∃ p c, e = .returned (.slice p (linesT T2 16).length c) ∧ IsLines w' W.heap.size p (linesT T2 16)) ∧ Below W.heap.size W w') := LC2
      have FC' : Hid _ := FC2
      clear OS LC2 FC2
      generalize linesT T2 16 = L at OS' LC' ll
      go_wp2_with fail
      refine (LC'.out _ M1.out.1).mono ?_
      rintro e u2 ⟨⟨p2, c2, rfl, hr⟩, hb2⟩
      have M2 : Hid (Own w u2 w.heap.size T2) := M1.out.grow hb2
      have R2 : Hid (IsLines u2 u1.heap.size p2 L) := hr
      clear hr hb2 M1
      go_wp2_with fail
      go_loopw [9, 31] (fun y x W => ∃ (m : Nat) (S : Int), m ≤ L.length ∧ y = .int .i64 S ∧ x = .int .i64 m ∧ 0 ≤ S ∧ S ≤ (m : Int) ∧ Hid (S = cntF a1 a2 (L.take m)) ∧ Hid (Own w W w.heap.size T2) ∧ Hid (IsLines W u1.heap.size p2 L)) (fun _ x _ => L.length - (intOf x).toNat)
      case atStart => exact ⟨0, 0, by omega, rfl, rfl, by omega, by omega, rfl, M2, R2⟩
      case round =>
        obtain ⟨m, S, hm, rfl, rfl, s0, s1, hS, hM3, hR3⟩ := hrel
        by_cases hlm : m < L.length
        · have hdm : decide ((m : Int) < (L.length : Int)) = true := by simp; omega
          obtain ⟨g, rfl, g1, g2, gc⟩ := hR3.out m hlm
          have HS1 : Hid (S + (if ((L.getD m Ln.zero).p == a2 && ((L.getD m Ln.zero).t == a1 || (L.getD m Ln.zero).g)) = true then 1 else 0) = cntF a1 a2 (L.take (m + 1))) := by
            show _ = _
            rw [cntF_take _ _ L m hlm, ← hS.out]
          generalize L.getD m Ln.zero = ln at gc HS1
          obtain ⟨lv, lt, lp, lf, lw, lu, lx, lg, ld⟩ := ln
          simp only at HS1
          have y0 : wr.cell? ⟨g, m * 9, none⟩ = some (.bool lv) := gc 0 _ rfl
          have y1 : wr.cell? ⟨g, m * 9 + 1, none⟩ = some (.int .i64 lt) := gc 1 _ rfl
          have y2 : wr.cell? ⟨g, m * 9 + 2, none⟩ = some (.int .i64 lp) := gc 2 _ rfl
          have y3 : wr.cell? ⟨g, m * 9 + 3, none⟩ = some (.int .i64 lf) := gc 3 _ rfl
          have y4 : wr.cell? ⟨g, m * 9 + 4, none⟩ = some (.bool lw) := gc 4 _ rfl
          have y5 : wr.cell? ⟨g, m * 9 + 5, none⟩ = some (.bool lu) := gc 5 _ rfl
          have y6 : wr.cell? ⟨g, m * 9 + 6, none⟩ = some (.bool lx) := gc 6 _ rfl
          have y7 : wr.cell? ⟨g, m * 9 + 7, none⟩ = some (.bool lg) := gc 7 _ rfl
          have y8 : wr.cell? ⟨g, m * 9 + 8, none⟩ = some (.bool ld) := gc 8 _ rfl
          clear gc
          by_cases c1 : lp = a2
          · have e1 : (lp == a2) = true := by simp [c1]
            clear c1
            by_cases c2 : lt = a1
            · have e2 : (lt == a1) = true := by simp [c2]
              clear c2
              have e3 : True := trivial
              have HS2 : Hid (S + 1 = cntF a1 a2 (L.take (m + 1))) := by
                have := HS1.out
                show _ = _
                simpa [e1, e2, e3] using this
              clear HS1
              go_wp2_with fail
              have M4 : Hid (Own w (wr.alloc (.cells #[.bool lv, .int .i64 lt, .int .i64 lp, .int .i64 lf, .bool lw, .bool lu, .bool lx, .bool lg, .bool ld] 26)) w.heap.size T2) := hM3.out.grow (Go.Joins.below_alloc1 _ _)
              have R4 : Hid (IsLines (wr.alloc (.cells #[.bool lv, .int .i64 lt, .int .i64 lp, .int .i64 lf, .bool lw, .bool lu, .bool lx, .bool lg, .bool ld] 26)) u1.heap.size (some ⟨g, 0, none⟩) L) := hR3.out.below (Go.Joins.below_alloc1 _ _)
              go_roundw
              case rel => exact ⟨m + 1, S + 1, by omega, by (first | go_num | (simp; done)), by go_num, by omega, by omega, HS2, M4, R4⟩
              case measure => simp [intOf]; omega
            · have e2 : (lt == a1) = false := by simp [c2]
              clear c2
              cases lg
              · have e3 : True := trivial
                have HS2 : Hid (S + 0 = cntF a1 a2 (L.take (m + 1))) := by
                  have := HS1.out
                  show _ = _
                  simpa [e1, e2, e3] using this
                clear HS1
                go_wp2_with fail
                have M4 : Hid (Own w (wr.alloc (.cells #[.bool lv, .int .i64 lt, .int .i64 lp, .int .i64 lf, .bool lw, .bool lu, .bool lx, .bool false, .bool ld] 26)) w.heap.size T2) := hM3.out.grow (Go.Joins.below_alloc1 _ _)
                have R4 : Hid (IsLines (wr.alloc (.cells #[.bool lv, .int .i64 lt, .int .i64 lp, .int .i64 lf, .bool lw, .bool lu, .bool lx, .bool false, .bool ld] 26)) u1.heap.size (some ⟨g, 0, none⟩) L) := hR3.out.below (Go.Joins.below_alloc1 _ _)
                go_roundw
                case rel => exact ⟨m + 1, S + 0, by omega, by (first | go_num | (simp; done)), by go_num, by omega, by omega, HS2, M4, R4⟩
                case measure => simp [intOf]; omega
              · have e3 : True := trivial
                have HS2 : Hid (S + 1 = cntF a1 a2 (L.take (m + 1))) := by
                  have := HS1.out
                  show _ = _
                  simpa [e1, e2, e3] using this
                clear HS1
                go_wp2_with fail
                have M4 : Hid (Own w (wr.alloc (.cells #[.bool lv, .int .i64 lt, .int .i64 lp, .int .i64 lf, .bool lw, .bool lu, .bool lx, .bool true, .bool ld] 26)) w.heap.size T2) := hM3.out.grow (Go.Joins.below_alloc1 _ _)
                have R4 : Hid (IsLines (wr.alloc (.cells #[.bool lv, .int .i64 lt, .int .i64 lp, .int .i64 lf, .bool lw, .bool lu, .bool lx, .bool true, .bool ld] 26)) u1.heap.size (some ⟨g, 0, none⟩) L) := hR3.out.below (Go.Joins.below_alloc1 _ _)
                go_roundw
                case rel => exact ⟨m + 1, S + 1, by omega, by (first | go_num | (simp; done)), by go_num, by omega, by omega, HS2, M4, R4⟩
                case measure => simp [intOf]; omega
          · have e1 : (lp == a2) = false := by simp [c1]
            clear c1
            have e2 : True := trivial
            have e3 : True := trivial
            have HS2 : Hid (S + 0 = cntF a1 a2 (L.take (m + 1))) := by
              have := HS1.out
              show _ = _
              simpa [e1, e2, e3] using this
            clear HS1
            go_wp2_with fail
            have M4 : Hid (Own w (wr.alloc (.cells #[.bool lv, .int .i64 lt, .int .i64 lp, .int .i64 lf, .bool lw, .bool lu, .bool lx, .bool lg, .bool ld] 26)) w.heap.size T2) := hM3.out.grow (Go.Joins.below_alloc1 _ _)
            have R4 : Hid (IsLines (wr.alloc (.cells #[.bool lv, .int .i64 lt, .int .i64 lp, .int .i64 lf, .bool lw, .bool lu, .bool lx, .bool lg, .bool ld] 26)) u1.heap.size (some ⟨g, 0, none⟩) L) := hR3.out.below (Go.Joins.below_alloc1 _ _)
            go_roundw
            case rel => exact ⟨m + 1, S + 0, by omega, by (first | go_num | (simp; done)), by go_num, by omega, by omega, HS2, M4, R4⟩
            case measure => simp [intOf]; omega
        · obtain rfl : m = L.length := by omega
          have hS2 := hS.out
          rw [List.take_length] at hS2
          have OO := OS'.out
          rw [← hS2] at OO
          have dl : decide (16 < (L.length : Int)) = false := by simp; omega
          clear hS hS2 OS' hR3
          rcases OO with ⟨rfl, rfl⟩ | ⟨rfl, rfl⟩
          all_goals
            go_wp2_with fail
            refine (FC'.out _ hM3.out.1).mono ?_
            rintro e u3 ⟨rfl, hb3⟩
            have M4 : Hid (Own w u3 w.heap.size T2) := hM3.out.grow hb3
            clear hb3
            go_wp2_with fail
            refine (LC'.out _ (M4.out.grow (Go.Joins.below_alloc1 _ _)).1).mono ?_
            rintro e u4 ⟨⟨p4, c4, rfl, _⟩, hb4⟩
            have M5 : Hid (Own w u4 w.heap.size T2) := (M4.out.grow (Go.Joins.below_alloc1 _ _)).grow hb4
            clear hb4
            go_wp2_with fail
            go_roundw
            case rel => exact ⟨k + 1, T2, by omega, by omega, by go_num, M5, G1⟩
            case measure => simp [intOf]; omega
    · clear DO LC FC
      by_cases hq : k < n0
      · have hd : decide ((k : Int) < (n0 : Int)) = true := by simp; omega
        have hd2 : decide ((k : Int) < 60) = false := by simp; omega
        go_wp2_with fail
        refine (AW.out _).mono ?_
        rintro e u1 ⟨rfl, hb1⟩
        have M1 := hM.out.grow hb1
        go_wp2_with fail
        go_ret
        exact ⟨rfl, M1.2.1⟩
      · have hd : decide ((k : Int) < (n0 : Int)) = false := by simp; omega
        go_wp2_with fail
        refine (AW.out _).mono ?_
        rintro e u1 ⟨rfl, hb1⟩
        have M1 := hM.out.grow hb1
        go_wp2_with fail
        go_ret
        exact ⟨rfl, M1.2.1⟩

theorem own : ownKnob Try.prog.godebug = none := by kernel_rfl
theorem laidOut : laidOutB Try.prog = true := by kernel_rfl
set_option maxRecDepth 100000 in
theorem lifted (os : Os) (started : os.Started) (H : Type) (enc : TypeId × Value → H) :
    ReturnsInHanded {} Try.checked os 4 .any (Rows.tlbOneSpec.pre6 enc Try.prog Try.f4 Rows.tlbOneRow.domain false) (Rows.tlbOneSpec.post enc Try.prog Try.f4 false true false false) := by
  refine returnsInHanded_of_change (C := Try.checked) own started (by kernel_rfl) Try.func4
    (ChangeSpec.witness6 (enc := enc) (C := Try.checked) false ⟨#[], #[.slice none 0 0, .int .i64 0, .int .i64 0], []⟩ 8 (by kernel_rfl) (by kernel_rfl) (by kernel_rfl) (by kernel_rfl)) ?_
  intro W base args ds gs before hval0 hW hcnd _
  have hval : ∀ (j : Nat) t v, Try.f4.params[j]? = some t → args[j]? = some v → Value.okWide Try.prog W .any base t v := hval0
  have hW' := hW
  obtain ⟨p, q, hA0, hV, hbef, hfz, hnd⟩ := hW
  have hA : DataW.TrodAll enc Try.prog W 0 (fun _ => true) true Try.f4.params.toList args.toList ds p := hA0
  have hAk := hA
  have hlt : ∀ x ∈ p, x.block < W.heap.size := fun x hx => hW'.lt x (by rw [hbef]; exact List.mem_append_left _ hx)
  rw [Try.params4] at hA hval
  obtain ⟨v0, vs0, d0, ds0, p0, q0, hargs, rfl, hp0, h0, r0⟩ := trodAll_cons hA
  obtain ⟨v1, vs1, d1, ds1, p1, q1, rfl, rfl, hp1, h1, r1⟩ := trodAll_cons r0
  obtain ⟨v2, vs2, d2, ds2, p2, q2, rfl, rfl, hp2, h2, r2⟩ := trodAll_cons r1
  obtain ⟨rfl, rfl, hpz⟩ := trodAll_nil r2
  obtain rfl : args = #[v0, v1, v2] := by cases args; simp_all
  obtain ⟨rfl, rfl⟩ := trodVars_none hV
  obtain ⟨p0, n0, c0, K0, A0, C0, L0, rfl, m0, H0⟩ := open_acts (hval 0 22 v0 rfl rfl) h0
  obtain ⟨a1, rfl, _, _, w1⟩ := open_int Try.underlying3 (hval 1 3 v1 rfl rfl) h1
  obtain ⟨a2, rfl, _, _, w2⟩ := open_int Try.underlying3 (hval 2 3 v2 rfl rfl) h2
  clear hA0 hval0
  refine (walk p0 n0 c0 K0 A0 C0 L0 m0 a1 w1 a2 w2 W H0).mono fun e W' ⟨he, hg⟩ => ?_
  subst he
  exact ⟨_, rfl, ⟨_, _, _, [], p, [], hW', (trodAll_cons_mk (shut_bool Try.underlying4 _) trodAll_mk0), args_stay laidOut hg (by kernel_rfl) hAk hlt, rfl, hg.frame _, fun h => by cases h⟩⟩

theorem over : Rows.tlbOneRow.holds Try.pinned (OpenSpec.ofChange Rows.tlbOneSpec) :=
  OpenClaim.holds_of_wide 4 Try.f4 rfl rfl rfl rfl rfl rfl rfl ⟨rfl, rfl, rfl, rfl, rfl⟩ rfl rfl rfl rfl rfl (by kernel_rfl) Try.func4 (by kernel_rfl)
    (of_decide_eq_true (by kernel_rfl)) (by unfold Func.isWrapper; first | (rw [if_pos (by decide +kernel)]; kernel_rfl) | (rw [if_neg (by decide +kernel)]; exact ⟨rfl, rfl⟩))
    (fun os started H enc _ => lifted os started H enc)

theorem proved : Rows.TlbOneSaid :=
  over
#print axioms proved
end Go.Proofs.Ytbknofopjkdbnaa.tlbOne
