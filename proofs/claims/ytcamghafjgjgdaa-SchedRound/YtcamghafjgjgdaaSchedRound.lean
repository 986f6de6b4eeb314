/- For any length of turns up to 20 and any calls: behind any 40 calls each that waits has its turn again behind as many turns as there are, and all is as it was; for longer turns and for none, what New answers; no condition. -/
import Derived.Test.YtcamghafjgjgdaaRows
import Derived.ProofKit
import Derived.OpenShut
import Derived.Carry
import Derived.Test.YtcamghafjgjgdaaH9
namespace Go.Proofs.Ytcamghafjgjgdaa.schedRound
open Go.ChangeShapes Go.WideShapes Go.ChangeAt Go.RowKit Go.Maps
set_option linter.unusedSimpArgs false
set_option linter.unusedVariables false

set_option maxRecDepth 8000 in
set_option maxHeartbeats 8000000 in
theorem walk (a0 : Int) (w0 : (Lit.int .i64 a0).wf = true) (p1 : Option Addr) (n1 c1 : Nat) (A1 : Nat → Ac) (m1 : n1 ≤ maxLen) (w : World) (H1 : IsActs w p1 n1 A1) :
    Calls Try.prog 4 #[.int .i64 a0, .slice p1 n1 c1] w fun e w' => e = .returned (.bool true) ∧ Below w.heap.size w w' := by
  have AWH : Hid (∀ W : World, Calls Try.prog 9 #[] W fun e w' => e = .returned (.bool true) ∧ Below W.heap.size W w') := fun W => awake_any W
  by_cases q0 : a0 < 1 ∨ 1000 < a0
  · have NW : Hid (∀ W : World, Calls Try.prog 8 #[.int .i64 a0] W fun e w' => e = .returned (.tuple #[.pointer none, .int .i64 1]) ∧ w' = W) := fun W => new_no a0 q0 W
    go_enter Try.func4, Try.ntmps4
    go_wp2_with fail
    refine (NW.out _).mono ?_
    rintro e u ⟨rfl, hu⟩
    have hu2 := hu.symm
    subst hu2
    clear hu
    go_wp2_with fail
    refine (AWH.out _).mono ?_
    rintro e u9 ⟨rfl, hb⟩
    have B9 : Hid (Below w.heap.size w u9) := hb
    clear hb
    go_wp2_with fail
    go_ret
    exact ⟨rfl, B9.out⟩
  have NW : Hid (Calls Try.prog 8 #[.int .i64 a0] w fun e w' => e = .returned (.tuple #[.pointer (some ⟨w.heap.size, 0, none⟩), .int .i64 0]) ∧ Own w w' w.heap.size ⟨a0, 0, []⟩) := new_ok a0 (by omega) (by omega) w
  by_cases x0 : 20 < a0
  · have dx0 : decide (20 < a0) = true := by simp; omega
    go_enter Try.func4, Try.ntmps4
    go_wp2_with fail
    refine NW.out.mono ?_
    rintro e u0 ⟨rfl, h0⟩
    have M0 : Hid (Own w u0 w.heap.size ⟨a0, 0, []⟩) := h0
    clear h0 NW
    go_wp2_with fail
    refine (AWH.out _).mono ?_
    rintro e u9 ⟨rfl, hb⟩
    have B9 : Hid (Below w.heap.size w u9) := (below_then M0.out.2.1 hb)
    clear hb
    go_wp2_with fail
    go_ret
    exact ⟨rfl, B9.out⟩
  have dx0 : decide (20 < a0) = false := by simp; omega
  have AD : Hid (∀ (S : Qu), Good S → ∀ p : Int, ∀ W : World, IsQ W w.heap.size S → Calls Try.prog 10 #[.pointer (some ⟨w.heap.size, 0, none⟩), .int .i64 p] W fun e w' => e = .returned (.int .i64 (addE S p)) ∧ IsQ w' w.heap.size (addS S p) ∧ Kb w.heap.size W w') := fun S g p W h => add_any _ S p g W h
  have RM : Hid (∀ (S : Qu), Good S → ∀ p : Int, ∀ W : World, IsQ W w.heap.size S → Calls Try.prog 12 #[.pointer (some ⟨w.heap.size, 0, none⟩), .int .i64 p] W fun e w' => e = .returned (.int .i64 (remE S p)) ∧ IsQ w' w.heap.size (remS S p) ∧ Kb w.heap.size W w') := fun S g p W h => rem_any _ S p g W h
  have YL : Hid (∀ (S : Qu), ∀ W : World, IsQ W w.heap.size S → Calls Try.prog 14 #[.pointer (some ⟨w.heap.size, 0, none⟩)] W fun e w' => e = .returned (.tuple #[]) ∧ IsQ w' w.heap.size (yldS S) ∧ Kb w.heap.size W w') := fun S W h => yld_any _ S W h
  have TC : Hid (∀ (S : Qu), Good S → ∀ W : World, IsQ W w.heap.size S → Calls Try.prog 17 #[.pointer (some ⟨w.heap.size, 0, none⟩)] W fun e w' => e = .returned (.bool (tckB S)) ∧ IsQ w' w.heap.size (tckS S) ∧ Kb w.heap.size W w') := fun S g W h => tck_any _ S g W h
  have NO : Hid (∀ (S : Qu), ∀ W : World, IsQ W w.heap.size S → Calls Try.prog 18 #[.pointer (some ⟨w.heap.size, 0, none⟩)] W fun e w' => e = .returned (.tuple #[.int .i64 (nowV S.L), .bool (nowB S.L)]) ∧ Below W.heap.size W w') := fun S W h => now_any _ S W h
  have TI : Hid (∀ (S : Qu), ∀ W : World, IsQ W w.heap.size S → Calls Try.prog 21 #[.pointer (some ⟨w.heap.size, 0, none⟩)] W fun e w' => e = .returned (.int .i64 S.t) ∧ w' = W) := fun S W h => ticks_any _ S W h
  have LI : Hid (∀ (S : Qu), ∀ W : World, IsQ W w.heap.size S → Calls Try.prog 20 #[.pointer (some ⟨w.heap.size, 0, none⟩)] W fun e w' => (∃ p c, e = .returned (.slice p S.L.length c) ∧ IsI w' p S.L W.heap.size) ∧ Below W.heap.size W w') := fun S W h => line_any _ S W h
  have SA : Hid (∀ (p1 p2 : Option Addr) (c1 c2 : Nat) (L : List Int) (b1 b2 : Nat), L.length ≤ 1000 → ∀ W : World, IsI W p1 L b1 → IsI W p2 L b2 → Calls Try.prog 19 #[.slice p1 L.length c1, .slice p2 L.length c2] W fun e w' => e = .returned (.bool true) ∧ Below W.heap.size W w') := fun p1 p2 c1 c2 L b1 b2 hn W h1 h2 => (same_any p1 p2 c1 c2 L L b1 b2 hn W h1 h2).mono (fun e w' h => ⟨by rw [h.1]; simp, h.2⟩)
  have mm : (n1 : Int) ≤ 9223372036854775807 := by have : maxLen ≤ 9223372036854775807 := by decide +kernel
                                                   omega
  have HA : Hid (IsActs w p1 n1 A1) := H1
  have GF : Hid (Good ⟨a0, 0, []⟩) := fresh_good a0 (by omega) (by omega)
  clear q0 H1
  go_enter Try.func4, Try.ntmps4
  go_wp2_with fail
  refine NW.out.mono ?_
  rintro e u0 ⟨rfl, h0⟩
  have M0 : Hid (Own w u0 w.heap.size ⟨a0, 0, []⟩) := h0
  clear h0 NW
  go_wp2_with fail
  go_loopw [7] (fun x W => ∃ (k : Nat) (S : Qu), k ≤ n1 ∧ k ≤ 40 ∧ x = .int .i64 k ∧ Hid (Good S) ∧ Hid (S.q = a0) ∧ Hid (Own w W w.heap.size S)) (fun x _ => 41 - (intOf x).toNat)
  case atStart => exact ⟨0, ⟨a0, 0, []⟩, by omega, by omega, rfl, GF, rfl, M0⟩
  case round =>
    obtain ⟨k, S, hk, hk40, rfl, hG, hQ, hM⟩ := hrel
    by_cases hlt : k < n1
    · by_cases h40 : k < 40
      · have hd : decide ((k : Int) < (n1 : Int)) = true := by simp; omega
        have hd2 : decide ((k : Int) < 40) = true := by simp; omega
        obtain ⟨bq, oq, rfl, lq, y0, y1, wf⟩ := HA.out k hlt
        have z0 : wr.cell? ⟨bq, oq + k * 2, none⟩ = some (.int .i64 (A1 k).kind) := (World.cell?_of_block (hM.out.2.1.block bq lq)).trans y0
        have z1 : wr.cell? ⟨bq, oq + k * 2 + 1, none⟩ = some (.int .i64 (A1 k).sp) := (World.cell?_of_block (hM.out.2.1.block bq lq)).trans y1
        have lq2 : bq < wr.heap.size := Nat.lt_of_lt_of_le lq hM.out.2.1.size
        clear y0 y1
        generalize A1 k = ac at z0 z1 wf
        obtain ⟨kd, sp⟩ := ac
        simp only at z0 z1 wf
        by_cases c1 : kd = 1
        · have c1' : (kd == 1) = true := by simp [c1]
          subst c1
          go_wp2_with fail
          refine (AD.out S hG.out sp _ hM.out.1).mono ?_
          rintro e u1 ⟨rfl, h1, h2⟩
          have M1 : Hid (Own w u1 w.heap.size (addS S sp)) := hM.out.next h1 h2
          have G1 : Hid (Good (addS S sp)) := hG.out.add sp
          have Q1 : Hid ((addS S sp).q = a0) := by show _ = _; first | rw [add_q, hQ.out] | rw [rem_q, hQ.out] | rw [yld_q, hQ.out] | rw [tck_q, hQ.out]
          clear h1 h2 hM hG
          go_wp2_with fail
          go_roundw
          case rel => exact ⟨k + 1, addS S sp, by omega, by omega, by go_num, G1, Q1, M1⟩
          case measure => simp [intOf]; omega
        have c1' : (kd == 1) = false := by simp [c1]
        by_cases c2 : kd = 2
        · have c2' : (kd == 2) = true := by simp [c2]
          subst c2
          go_wp2_with fail
          refine (RM.out S hG.out sp _ hM.out.1).mono ?_
          rintro e u1 ⟨rfl, h1, h2⟩
          have M1 : Hid (Own w u1 w.heap.size (remS S sp)) := hM.out.next h1 h2
          have G1 : Hid (Good (remS S sp)) := hG.out.rem sp
          have Q1 : Hid ((remS S sp).q = a0) := by show _ = _; first | rw [add_q, hQ.out] | rw [rem_q, hQ.out] | rw [yld_q, hQ.out] | rw [tck_q, hQ.out]
          clear h1 h2 hM hG
          go_wp2_with fail
          go_roundw
          case rel => exact ⟨k + 1, remS S sp, by omega, by omega, by go_num, G1, Q1, M1⟩
          case measure => simp [intOf]; omega
        have c2' : (kd == 2) = false := by simp [c2]
        by_cases c3 : kd = 3
        · have c3' : (kd == 3) = true := by simp [c3]
          subst c3
          go_wp2_with fail
          refine (YL.out S _ hM.out.1).mono ?_
          rintro e u1 ⟨rfl, h1, h2⟩
          have M1 : Hid (Own w u1 w.heap.size (yldS S)) := hM.out.next h1 h2
          have G1 : Hid (Good (yldS S)) := hG.out.yld
          have Q1 : Hid ((yldS S).q = a0) := by show _ = _; first | rw [add_q, hQ.out] | rw [rem_q, hQ.out] | rw [yld_q, hQ.out] | rw [tck_q, hQ.out]
          clear h1 h2 hM hG
          go_wp2_with fail
          go_roundw
          case rel => exact ⟨k + 1, yldS S, by omega, by omega, by go_num, G1, Q1, M1⟩
          case measure => simp [intOf]; omega
        have c3' : (kd == 3) = false := by simp [c3]
        by_cases c4 : kd = 4
        · have c4' : (kd == 4) = true := by simp [c4]
          subst c4
          go_wp2_with fail
          refine (TC.out S hG.out _ hM.out.1).mono ?_
          rintro e u1 ⟨rfl, h1, h2⟩
          have M1 : Hid (Own w u1 w.heap.size (tckS S)) := hM.out.next h1 h2
          have G1 : Hid (Good (tckS S)) := hG.out.tck
          have Q1 : Hid ((tckS S).q = a0) := by show _ = _; first | rw [add_q, hQ.out] | rw [rem_q, hQ.out] | rw [yld_q, hQ.out] | rw [tck_q, hQ.out]
          clear h1 h2 hM hG
          go_wp2_with fail
          go_roundw
          case rel => exact ⟨k + 1, tckS S, by omega, by omega, by go_num, G1, Q1, M1⟩
          case measure => simp [intOf]; omega
        have c4' : (kd == 4) = false := by simp [c4]
        go_wp2_with fail
        go_roundw
        case rel => exact ⟨k + 1, S, by omega, by omega, by go_num, hG, hQ, hM⟩
        case measure => simp [intOf]; omega
      · have hd : decide ((k : Int) < (n1 : Int)) = true := by simp; omega
        have hd2 : decide ((k : Int) < 40) = false := by simp; omega
        have hd3 : ¬ (k : Int) < 40 := by omega
        go_wp2_with fail
        clear AD RM YL NO HA hk hk40 hd3
        obtain ⟨qs, ts, L⟩ := S
        refine (LI.out _ _ hM.out.1).mono ?_
        rintro e u1 ⟨⟨pL, cL, rfl, hI⟩, hb⟩
        have M1 : Hid (Own w u1 w.heap.size ⟨qs, ts, L⟩) := hM.out.grow hb
        have IL : Hid (IsI u1 pL L (w.heap.size + 1)) := fun i hi => by
          obtain ⟨g, e, l1, l2, c⟩ := hI i hi
          have := blk_lt hM.out.1.blk
          exact ⟨g, e, by omega, l2, c⟩
        have lf : L.length ≤ 16 := hG.out.few
        have hq' : qs = a0 := hQ.out
        subst hq'
        have t0 : 0 ≤ ts := hG.out.t0
        have t1 : ts < qs := hG.out.t1
        obtain ⟨tn, rfl⟩ : ∃ tn : Nat, ts = tn := ⟨ts.toNat, by omega⟩
        obtain ⟨q, hq⟩ : ∃ q : Nat, qs = q := ⟨qs.toNat, by omega⟩
        have HQ : Hid (qs = (q : Int)) := hq
        have hq0 : 0 < q := by omega
        have hq20 : q ≤ 20 := by omega
        have tq : tn < q := by omega
        clear hb hI hM hQ hq
        obtain ⟨m, hm⟩ : ∃ m, m = L.length := ⟨_, rfl⟩
        rw [← hm] at lf
        simp only
        rw [← hm]
        have Hm : Hid (m = L.length) := hm
        clear hm
        obtain ⟨pr, hpr⟩ : ∃ pr, pr = m * q := ⟨_, rfl⟩
        have hpl : pr ≤ 320 := by rw [hpr]; exact Nat.le_trans (Nat.mul_le_mul lf hq20) (by omega)
        have hmul : (m : Int) * qs = (pr : Int) := by rw [hpr, HQ.out]; simp
        have hmul2 : (qs : Int) * (m : Int) = (pr : Int) := by rw [Int.mul_comm]; exact hmul
        have Hpr : Hid (pr = m * q) := hpr
        clear hpr
        have ZS : Hid (St ⟨qs, tn, L⟩ L q (tn + 0) 0) := by show St _ _ _ _ _; rw [HQ.out]; exact st_zero L q tn tq
        have TTI : Hid _ := TI.out ⟨qs, tn, L⟩
        go_wp2_with fail
        refine (TTI.out _ M1.out.1).mono ?_
        rintro e u2 ⟨rfl, hu⟩
        subst hu
        go_wp2_with fail
        go_loopw [10, 11] (fun y x W => ∃ (i c : Nat) (S : Qu), i ≤ pr ∧ c ≤ i ∧ y = .int .i64 c ∧ x = .int .i64 i ∧ Hid (Good S) ∧ Hid (St S L q (tn + i) c) ∧ Hid (Own w W w.heap.size S) ∧ Hid (IsI W pL L (w.heap.size + 1))) (fun _ x _ => pr - (intOf x).toNat)
        case atStart => exact ⟨0, 0, ⟨qs, tn, L⟩, by omega, by omega, rfl, rfl, hG, ZS, M1, IL⟩
        case round =>
          obtain ⟨i, c, S, hi, hc, rfl, rfl, hGi, hS, hMi, hIi⟩ := hrel
          by_cases ilt : i < pr
          · have jd : decide ((i : Int) < (pr : Int)) = true := by simp; omega
            have mp : 0 < L.length := by
              rw [← Hm.out]
              by_cases z : m = 0
              · have := Hpr.out; rw [z] at this; omega
              · omega
            have G2 : Hid (Good (tckS S)) := hGi.out.tck
            have YY := TC.out S hGi.out
            rcases st_next hq0 mp hS.out with ⟨e1, e2⟩ | ⟨e1, e2⟩
            · rw [e1] at YY
              have YY2 : Hid _ := YY
              have S2 : Hid (St (tckS S) L q (tn + (i + 1)) (c)) := e2
              clear YY e1 e2
              generalize tckS S = Sn at YY2 S2 G2
              go_wp2_with fail
              refine (YY2.out _ hMi.out.1).mono ?_
              rintro e u2 ⟨rfl, h1, h2⟩
              have M2 : Hid (Own w u2 w.heap.size Sn) := hMi.out.next h1 h2
              have I2 : Hid (IsI u2 pL L (w.heap.size + 1)) := hIi.out.kb h2 (by omega)
              clear h1 h2 hMi hIi
              go_wp2_with fail
              go_roundw
              case rel => exact ⟨i + 1, c, Sn, by omega, by omega, by go_num, by go_num, G2, S2, M2, I2⟩
              case measure => simp [intOf]; omega
            · rw [e1] at YY
              have YY2 : Hid _ := YY
              have S2 : Hid (St (tckS S) L q (tn + (i + 1)) (c + 1)) := e2
              clear YY e1 e2
              generalize tckS S = Sn at YY2 S2 G2
              go_wp2_with fail
              refine (YY2.out _ hMi.out.1).mono ?_
              rintro e u2 ⟨rfl, h1, h2⟩
              have M2 : Hid (Own w u2 w.heap.size Sn) := hMi.out.next h1 h2
              have I2 : Hid (IsI u2 pL L (w.heap.size + 1)) := hIi.out.kb h2 (by omega)
              clear h1 h2 hMi hIi
              go_wp2_with fail
              go_roundw
              case rel => exact ⟨i + 1, c + 1, Sn, by omega, by omega, by go_num, by go_num, G2, S2, M2, I2⟩
              case measure => simp [intOf]; omega
          · obtain rfl : i = pr := by omega
            have jd : decide ((i : Int) < (i : Int)) = false := by simp
            have fin : St S L q (tn + L.length * q) c := by have := hS.out; rw [Hpr.out, Hm.out] at this; exact this
            obtain ⟨rfl, ec⟩ := st_all hq0 tq fin
            have ecm : c = m := by rw [ec, Hm.out]
            clear fin ec
            subst ecm
            have LL := LI.out ⟨(q : Int), (tn : Int), L⟩
            have TT := TI.out ⟨(q : Int), (tn : Int), L⟩
            have ss := fun (p1 : Option Addr) (c1 : Nat) (b1 : Nat) => SA.out p1 pL c1 cL L b1 (w.heap.size + 1) (by have := Hm.out; omega)
            simp only at LL TT
            rw [← Hm.out] at LL ss
            have LL2 : Hid _ := LL
            have TT2 : Hid _ := TT
            have SS2 : Hid _ := ss
            clear LL TT ss LI TI TC SA
            have mm2 : ((c : Int) == (c : Int)) = true := by simp
            have mm3 : ((tn : Int) == (tn : Int)) = true := by simp
            go_wp2_with fail
            refine (AWH.out _).mono ?_
            rintro e u9 ⟨rfl, hb⟩
            have M9 : Hid (Own w u9 w.heap.size ⟨(q : Int), (tn : Int), L⟩) := hMi.out.grow hb
            have I9 : Hid (IsI u9 pL L (w.heap.size + 1)) := hIi.out.below hb
            clear hb
            go_wp2_with fail
            refine (LL2.out _ M9.out.1).mono ?_
            rintro e u8 ⟨⟨p8, c8, rfl, hI8⟩, hb⟩
            have M8 : Hid (Own w u8 w.heap.size ⟨(q : Int), (tn : Int), L⟩) := M9.out.grow hb
            have I8 : Hid (IsI u8 pL L (w.heap.size + 1)) := I9.out.below hb
            have J8 : Hid (IsI u8 p8 L u9.heap.size) := hI8
            clear hb hI8 M9 I9
            go_wp2_with fail
            refine (SS2.out p8 c8 _ _ J8.out I8.out).mono ?_
            rintro e u7 ⟨rfl, hb⟩
            have M7 : Hid (Own w u7 w.heap.size ⟨(q : Int), (tn : Int), L⟩) := M8.out.grow hb
            clear hb M8 I8 J8
            go_wp2_with fail
            refine (TT2.out _ M7.out.1).mono ?_
            rintro e u6 ⟨rfl, hu⟩
            subst hu
            go_wp2_with fail
            go_ret
            exact ⟨rfl, M7.out.2.1⟩
    · have hd : decide ((k : Int) < (n1 : Int)) = false := by simp; omega
      have hd3 : ¬ (k : Int) < (n1 : Int) := by omega
      go_wp2_with fail
      clear AD RM YL NO HA hk hk40 hd3
      obtain ⟨qs, ts, L⟩ := S
      refine (LI.out _ _ hM.out.1).mono ?_
      rintro e u1 ⟨⟨pL, cL, rfl, hI⟩, hb⟩
      have M1 : Hid (Own w u1 w.heap.size ⟨qs, ts, L⟩) := hM.out.grow hb
      have IL : Hid (IsI u1 pL L (w.heap.size + 1)) := fun i hi => by
        obtain ⟨g, e, l1, l2, c⟩ := hI i hi
        have := blk_lt hM.out.1.blk
        exact ⟨g, e, by omega, l2, c⟩
      have lf : L.length ≤ 16 := hG.out.few
      have hq' : qs = a0 := hQ.out
      subst hq'
      have t0 : 0 ≤ ts := hG.out.t0
      have t1 : ts < qs := hG.out.t1
      obtain ⟨tn, rfl⟩ : ∃ tn : Nat, ts = tn := ⟨ts.toNat, by omega⟩
      obtain ⟨q, hq⟩ : ∃ q : Nat, qs = q := ⟨qs.toNat, by omega⟩
      have HQ : Hid (qs = (q : Int)) := hq
      have hq0 : 0 < q := by omega
      have hq20 : q ≤ 20 := by omega
      have tq : tn < q := by omega
      clear hb hI hM hQ hq
      obtain ⟨m, hm⟩ : ∃ m, m = L.length := ⟨_, rfl⟩
      rw [← hm] at lf
      simp only
      rw [← hm]
      have Hm : Hid (m = L.length) := hm
      clear hm
      obtain ⟨pr, hpr⟩ : ∃ pr, pr = m * q := ⟨_, rfl⟩
      have hpl : pr ≤ 320 := by rw [hpr]; exact Nat.le_trans (Nat.mul_le_mul lf hq20) (by omega)
      have hmul : (m : Int) * qs = (pr : Int) := by rw [hpr, HQ.out]; simp
      have hmul2 : (qs : Int) * (m : Int) = (pr : Int) := by rw [Int.mul_comm]; exact hmul
      have Hpr : Hid (pr = m * q) := hpr
      clear hpr
      have ZS : Hid (St ⟨qs, tn, L⟩ L q (tn + 0) 0) := by show St _ _ _ _ _; rw [HQ.out]; exact st_zero L q tn tq
      have TTI : Hid _ := TI.out ⟨qs, tn, L⟩
      go_wp2_with fail
      refine (TTI.out _ M1.out.1).mono ?_
      rintro e u2 ⟨rfl, hu⟩
      subst hu
      go_wp2_with fail
      go_loopw [10, 11] (fun y x W => ∃ (i c : Nat) (S : Qu), i ≤ pr ∧ c ≤ i ∧ y = .int .i64 c ∧ x = .int .i64 i ∧ Hid (Good S) ∧ Hid (St S L q (tn + i) c) ∧ Hid (Own w W w.heap.size S) ∧ Hid (IsI W pL L (w.heap.size + 1))) (fun _ x _ => pr - (intOf x).toNat)
      case atStart => exact ⟨0, 0, ⟨qs, tn, L⟩, by omega, by omega, rfl, rfl, hG, ZS, M1, IL⟩
      case round =>
        obtain ⟨i, c, S, hi, hc, rfl, rfl, hGi, hS, hMi, hIi⟩ := hrel
        by_cases ilt : i < pr
        · have jd : decide ((i : Int) < (pr : Int)) = true := by simp; omega
          have mp : 0 < L.length := by
            rw [← Hm.out]
            by_cases z : m = 0
            · have := Hpr.out; rw [z] at this; omega
            · omega
          have G2 : Hid (Good (tckS S)) := hGi.out.tck
          have YY := TC.out S hGi.out
          rcases st_next hq0 mp hS.out with ⟨e1, e2⟩ | ⟨e1, e2⟩
          · rw [e1] at YY
            have YY2 : Hid _ := YY
            have S2 : Hid (St (tckS S) L q (tn + (i + 1)) (c)) := e2
            clear YY e1 e2
            generalize tckS S = Sn at YY2 S2 G2
            go_wp2_with fail
            refine (YY2.out _ hMi.out.1).mono ?_
            rintro e u2 ⟨rfl, h1, h2⟩
            have M2 : Hid (Own w u2 w.heap.size Sn) := hMi.out.next h1 h2
            have I2 : Hid (IsI u2 pL L (w.heap.size + 1)) := hIi.out.kb h2 (by omega)
            clear h1 h2 hMi hIi
            go_wp2_with fail
            go_roundw
            case rel => exact ⟨i + 1, c, Sn, by omega, by omega, by go_num, by go_num, G2, S2, M2, I2⟩
            case measure => simp [intOf]; omega
          · rw [e1] at YY
            have YY2 : Hid _ := YY
            have S2 : Hid (St (tckS S) L q (tn + (i + 1)) (c + 1)) := e2
            clear YY e1 e2
            generalize tckS S = Sn at YY2 S2 G2
            go_wp2_with fail
            refine (YY2.out _ hMi.out.1).mono ?_
            rintro e u2 ⟨rfl, h1, h2⟩
            have M2 : Hid (Own w u2 w.heap.size Sn) := hMi.out.next h1 h2
            have I2 : Hid (IsI u2 pL L (w.heap.size + 1)) := hIi.out.kb h2 (by omega)
            clear h1 h2 hMi hIi
            go_wp2_with fail
            go_roundw
            case rel => exact ⟨i + 1, c + 1, Sn, by omega, by omega, by go_num, by go_num, G2, S2, M2, I2⟩
            case measure => simp [intOf]; omega
        · obtain rfl : i = pr := by omega
          have jd : decide ((i : Int) < (i : Int)) = false := by simp
          have fin : St S L q (tn + L.length * q) c := by have := hS.out; rw [Hpr.out, Hm.out] at this; exact this
          obtain ⟨rfl, ec⟩ := st_all hq0 tq fin
          have ecm : c = m := by rw [ec, Hm.out]
          clear fin ec
          subst ecm
          have LL := LI.out ⟨(q : Int), (tn : Int), L⟩
          have TT := TI.out ⟨(q : Int), (tn : Int), L⟩
          have ss := fun (p1 : Option Addr) (c1 : Nat) (b1 : Nat) => SA.out p1 pL c1 cL L b1 (w.heap.size + 1) (by have := Hm.out; omega)
          simp only at LL TT
          rw [← Hm.out] at LL ss
          have LL2 : Hid _ := LL
          have TT2 : Hid _ := TT
          have SS2 : Hid _ := ss
          clear LL TT ss LI TI TC SA
          have mm2 : ((c : Int) == (c : Int)) = true := by simp
          have mm3 : ((tn : Int) == (tn : Int)) = true := by simp
          go_wp2_with fail
          refine (AWH.out _).mono ?_
          rintro e u9 ⟨rfl, hb⟩
          have M9 : Hid (Own w u9 w.heap.size ⟨(q : Int), (tn : Int), L⟩) := hMi.out.grow hb
          have I9 : Hid (IsI u9 pL L (w.heap.size + 1)) := hIi.out.below hb
          clear hb
          go_wp2_with fail
          refine (LL2.out _ M9.out.1).mono ?_
          rintro e u8 ⟨⟨p8, c8, rfl, hI8⟩, hb⟩
          have M8 : Hid (Own w u8 w.heap.size ⟨(q : Int), (tn : Int), L⟩) := M9.out.grow hb
          have I8 : Hid (IsI u8 pL L (w.heap.size + 1)) := I9.out.below hb
          have J8 : Hid (IsI u8 p8 L u9.heap.size) := hI8
          clear hb hI8 M9 I9
          go_wp2_with fail
          refine (SS2.out p8 c8 _ _ J8.out I8.out).mono ?_
          rintro e u7 ⟨rfl, hb⟩
          have M7 : Hid (Own w u7 w.heap.size ⟨(q : Int), (tn : Int), L⟩) := M8.out.grow hb
          clear hb M8 I8 J8
          go_wp2_with fail
          refine (TT2.out _ M7.out.1).mono ?_
          rintro e u6 ⟨rfl, hu⟩
          subst hu
          go_wp2_with fail
          go_ret
          exact ⟨rfl, M7.out.2.1⟩

theorem own : ownKnob Try.prog.godebug = none := by kernel_rfl
theorem laidOut : laidOutB Try.prog = true := by kernel_rfl
set_option maxRecDepth 100000 in
theorem lifted (os : Os) (started : os.Started) (H : Type) (enc : TypeId × Value → H) :
    ReturnsInHanded {} Try.checked os 4 .any (Rows.schedRoundSpec.pre6 enc Try.prog Try.f4 Rows.schedRoundRow.domain false) (Rows.schedRoundSpec.post enc Try.prog Try.f4 false true false false) := by
  refine returnsInHanded_of_change (C := Try.checked) own started (by kernel_rfl) Try.func4
    (ChangeSpec.witness6 (enc := enc) (C := Try.checked) false ⟨#[], #[.int .i64 0, .slice none 0 0], []⟩ 8 (by kernel_rfl) (by kernel_rfl) (by kernel_rfl) (by kernel_rfl)) ?_
  intro W base args ds gs before hval0 hW hcnd _
  have hval : ∀ (j : Nat) t v, Try.f4.params[j]? = some t → args[j]? = some v → Value.okWide Try.prog W .any base t v := hval0
  have hW' := hW
  obtain ⟨p, q, hA0, hV, hbef, hfz, hnd⟩ := hW
  have hA : DataW.TrodAll enc Try.prog W 0 (fun _ => true) true Try.f4.params.toList args.toList ds p := hA0
  have hAk := hA
  have hlt : ∀ x ∈ p, x.block < W.heap.size := fun x hx => hW'.lt x (by rw [hbef]; exact List.mem_append_left _ hx)
  rw [Try.params4] at hA hval
  obtain ⟨v0, vs0, d0, ds0, p0, q0, hargs, rfl, hp0, h0, r0⟩ := trodAll_cons hA
  obtain ⟨v1, vs1, d1, ds1, p1, q1, rfl, rfl, hp1, h1, r1⟩ := trodAll_cons r0
  obtain ⟨rfl, rfl, hpz⟩ := trodAll_nil r1
  obtain rfl : args = #[v0, v1] := by cases args; simp_all
  obtain ⟨rfl, rfl⟩ := trodVars_none hV
  obtain ⟨a0, rfl, _, _, w0⟩ := open_int Try.underlying3 (hval 0 3 v0 rfl rfl) h0
  obtain ⟨p1, n1, c1, A1, rfl, m1, H1⟩ := open_acts (hval 1 22 v1 rfl rfl) h1
  clear hA0 hval0
  refine (walk a0 w0 p1 n1 c1 A1 m1 W H1).mono fun e W' ⟨he, hg⟩ => ?_
  subst he
  exact ⟨_, rfl, ⟨_, _, _, [], p, [], hW', (trodAll_cons_mk (shut_bool Try.underlying4 _) trodAll_mk0), args_stay laidOut hg (by kernel_rfl) hAk hlt, rfl, hg.frame _, fun h => by cases h⟩⟩

theorem over : Rows.schedRoundRow.holds Try.pinned (OpenSpec.ofChange Rows.schedRoundSpec) :=
  OpenClaim.holds_of_wide 4 Try.f4 rfl rfl rfl rfl rfl rfl rfl ⟨rfl, rfl, rfl, rfl, rfl⟩ rfl rfl rfl rfl rfl (by kernel_rfl) Try.func4 (by kernel_rfl)
    (of_decide_eq_true (by kernel_rfl)) (by unfold Func.isWrapper; first | (rw [if_pos (by decide +kernel)]; kernel_rfl) | (rw [if_neg (by decide +kernel)]; exact ⟨rfl, rfl⟩))
    (fun os started H enc _ => lifted os started H enc)

theorem proved : Rows.SchedRoundSaid :=
  over
#print axioms proved
end Go.Proofs.Ytcamghafjgjgdaa.schedRound
