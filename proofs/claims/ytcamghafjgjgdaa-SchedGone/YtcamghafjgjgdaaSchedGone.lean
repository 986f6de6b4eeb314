/- For any length of turns up to 20, any calls and any process: behind any 40 calls, who was removed has no turn any more until it is added, and is the last one then; no condition. -/
import Derived.Test.YtcamghafjgjgdaaRows
import Derived.ProofKit
import Derived.OpenShut
import Derived.Carry
import Derived.Test.YtcamghafjgjgdaaH8
namespace Go.Proofs.Ytcamghafjgjgdaa.schedGone
open Go.ChangeShapes Go.WideShapes Go.ChangeAt Go.RowKit Go.Maps
set_option linter.unusedSimpArgs false
set_option linter.unusedVariables false

set_option maxRecDepth 8000 in
set_option maxHeartbeats 8000000 in
theorem walk (a0 : Int) (w0 : (Lit.int .i64 a0).wf = true) (p1 : Option Addr) (n1 c1 : Nat) (A1 : Nat → Ac) (m1 : n1 ≤ maxLen) (a2 : Int) (w2 : (Lit.int .i64 a2).wf = true) (w : World) (H1 : IsActs w p1 n1 A1) :
    Calls Try.prog 6 #[.int .i64 a0, .slice p1 n1 c1, .int .i64 a2] w fun e w' => e = .returned (.bool true) ∧ Below w.heap.size w w' := by
  have AWH : Hid (∀ W : World, Calls Try.prog 9 #[] W fun e w' => e = .returned (.bool true) ∧ Below W.heap.size W w') := fun W => awake_any W
  by_cases q0 : a0 < 1 ∨ 1000 < a0
  · have NW : Hid (∀ W : World, Calls Try.prog 8 #[.int .i64 a0] W fun e w' => e = .returned (.tuple #[.pointer none, .int .i64 1]) ∧ w' = W) := fun W => new_no a0 q0 W
    go_enter Try.func6, Try.ntmps6
    go_wp2_with fail
    refine (NW.out _).mono ?_
    rintro e u ⟨rfl, hu⟩
    have hu2 := hu.symm
    subst hu2
    clear hu
    go_wp2_with fail
    refine (AWH.out _).mono ?_
    rintro e u9 ⟨rfl, hb⟩
    have B9 : Hid (Below w.heap.size w u9) := hb
    clear hb
    go_wp2_with fail
    go_ret
    exact ⟨rfl, B9.out⟩
  have NW : Hid (Calls Try.prog 8 #[.int .i64 a0] w fun e w' => e = .returned (.tuple #[.pointer (some ⟨w.heap.size, 0, none⟩), .int .i64 0]) ∧ Own w w' w.heap.size ⟨a0, 0, []⟩) := new_ok a0 (by omega) (by omega) w
  by_cases x0 : 20 < a0
  · have dx0 : decide (20 < a0) = true := by simp; omega
    go_enter Try.func6, Try.ntmps6
    go_wp2_with fail
    refine NW.out.mono ?_
    rintro e u0 ⟨rfl, h0⟩
    have M0 : Hid (Own w u0 w.heap.size ⟨a0, 0, []⟩) := h0
    clear h0 NW
    go_wp2_with fail
    refine (AWH.out _).mono ?_
    rintro e u9 ⟨rfl, hb⟩
    have B9 : Hid (Below w.heap.size w u9) := (below_then M0.out.2.1 hb)
    clear hb
    go_wp2_with fail
    go_ret
    exact ⟨rfl, B9.out⟩
  have dx0 : decide (20 < a0) = false := by simp; omega
  by_cases x1 : a2 < 0
  · have dx1 : decide (a2 < 0) = true := by simp; omega
    go_enter Try.func6, Try.ntmps6
    go_wp2_with fail
    refine NW.out.mono ?_
    rintro e u0 ⟨rfl, h0⟩
    have M0 : Hid (Own w u0 w.heap.size ⟨a0, 0, []⟩) := h0
    clear h0 NW
    go_wp2_with fail
    refine (AWH.out _).mono ?_
    rintro e u9 ⟨rfl, hb⟩
    have B9 : Hid (Below w.heap.size w u9) := (below_then M0.out.2.1 hb)
    clear hb
    go_wp2_with fail
    go_ret
    exact ⟨rfl, B9.out⟩
  have dx1 : decide (a2 < 0) = false := by simp; omega
  by_cases x2 : 15 < a2
  · have dx2 : decide (15 < a2) = true := by simp; omega
    go_enter Try.func6, Try.ntmps6
    go_wp2_with fail
    refine NW.out.mono ?_
    rintro e u0 ⟨rfl, h0⟩
    have M0 : Hid (Own w u0 w.heap.size ⟨a0, 0, []⟩) := h0
    clear h0 NW
    go_wp2_with fail
    refine (AWH.out _).mono ?_
    rintro e u9 ⟨rfl, hb⟩
    have B9 : Hid (Below w.heap.size w u9) := (below_then M0.out.2.1 hb)
    clear hb
    go_wp2_with fail
    go_ret
    exact ⟨rfl, B9.out⟩
  have dx2 : decide (15 < a2) = false := by simp; omega
  have AD : Hid (∀ (S : Qu), Good S → ∀ p : Int, ∀ W : World, IsQ W w.heap.size S → Calls Try.prog 10 #[.pointer (some ⟨w.heap.size, 0, none⟩), .int .i64 p] W fun e w' => e = .returned (.int .i64 (addE S p)) ∧ IsQ w' w.heap.size (addS S p) ∧ Kb w.heap.size W w') := fun S g p W h => add_any _ S p g W h
  have RM : Hid (∀ (S : Qu), Good S → ∀ p : Int, ∀ W : World, IsQ W w.heap.size S → Calls Try.prog 12 #[.pointer (some ⟨w.heap.size, 0, none⟩), .int .i64 p] W fun e w' => e = .returned (.int .i64 (remE S p)) ∧ IsQ w' w.heap.size (remS S p) ∧ Kb w.heap.size W w') := fun S g p W h => rem_any _ S p g W h
  have YL : Hid (∀ (S : Qu), ∀ W : World, IsQ W w.heap.size S → Calls Try.prog 14 #[.pointer (some ⟨w.heap.size, 0, none⟩)] W fun e w' => e = .returned (.tuple #[]) ∧ IsQ w' w.heap.size (yldS S) ∧ Kb w.heap.size W w') := fun S W h => yld_any _ S W h
  have TC : Hid (∀ (S : Qu), Good S → ∀ W : World, IsQ W w.heap.size S → Calls Try.prog 17 #[.pointer (some ⟨w.heap.size, 0, none⟩)] W fun e w' => e = .returned (.bool (tckB S)) ∧ IsQ w' w.heap.size (tckS S) ∧ Kb w.heap.size W w') := fun S g W h => tck_any _ S g W h
  have NO : Hid (∀ (S : Qu), ∀ W : World, IsQ W w.heap.size S → Calls Try.prog 18 #[.pointer (some ⟨w.heap.size, 0, none⟩)] W fun e w' => e = .returned (.tuple #[.int .i64 (nowV S.L), .bool (nowB S.L)]) ∧ Below W.heap.size W w') := fun S W h => now_any _ S W h
  have TI : Hid (∀ (S : Qu), ∀ W : World, IsQ W w.heap.size S → Calls Try.prog 21 #[.pointer (some ⟨w.heap.size, 0, none⟩)] W fun e w' => e = .returned (.int .i64 S.t) ∧ w' = W) := fun S W h => ticks_any _ S W h
  have LI : Hid (∀ (S : Qu), ∀ W : World, IsQ W w.heap.size S → Calls Try.prog 20 #[.pointer (some ⟨w.heap.size, 0, none⟩)] W fun e w' => (∃ p c, e = .returned (.slice p S.L.length c) ∧ IsI w' p S.L W.heap.size) ∧ Below W.heap.size W w') := fun S W h => line_any _ S W h
  have mm : (n1 : Int) ≤ 9223372036854775807 := by have : maxLen ≤ 9223372036854775807 := by decide +kernel
                                                   omega
  have HA : Hid (IsActs w p1 n1 A1) := H1
  have GF : Hid (Good ⟨a0, 0, []⟩) := fresh_good a0 (by omega) (by omega)
  clear q0 H1
  go_enter Try.func6, Try.ntmps6
  go_wp2_with fail
  refine NW.out.mono ?_
  rintro e u0 ⟨rfl, h0⟩
  have M0 : Hid (Own w u0 w.heap.size ⟨a0, 0, []⟩) := h0
  clear h0 NW
  go_wp2_with fail
  go_loopw [9] (fun x W => ∃ (k : Nat) (S : Qu), k ≤ n1 ∧ k ≤ 40 ∧ x = .int .i64 k ∧ Hid (Good S) ∧ Hid (S.q = a0) ∧ Hid (Own w W w.heap.size S)) (fun x _ => 41 - (intOf x).toNat)
  case atStart => exact ⟨0, ⟨a0, 0, []⟩, by omega, by omega, rfl, GF, rfl, M0⟩
  case round =>
    obtain ⟨k, S, hk, hk40, rfl, hG, hQ, hM⟩ := hrel
    by_cases hlt : k < n1
    · by_cases h40 : k < 40
      · have hd : decide ((k : Int) < (n1 : Int)) = true := by simp; omega
        have hd2 : decide ((k : Int) < 40) = true := by simp; omega
        obtain ⟨bq, oq, rfl, lq, y0, y1, wf⟩ := HA.out k hlt
        have z0 : wr.cell? ⟨bq, oq + k * 2, none⟩ = some (.int .i64 (A1 k).kind) := (World.cell?_of_block (hM.out.2.1.block bq lq)).trans y0
        have z1 : wr.cell? ⟨bq, oq + k * 2 + 1, none⟩ = some (.int .i64 (A1 k).sp) := (World.cell?_of_block (hM.out.2.1.block bq lq)).trans y1
        have lq2 : bq < wr.heap.size := Nat.lt_of_lt_of_le lq hM.out.2.1.size
        clear y0 y1
        generalize A1 k = ac at z0 z1 wf
        obtain ⟨kd, sp⟩ := ac
        simp only at z0 z1 wf
        by_cases c1 : kd = 1
        · have c1' : (kd == 1) = true := by simp [c1]
          subst c1
          go_wp2_with fail
          refine (AD.out S hG.out sp _ hM.out.1).mono ?_
          rintro e u1 ⟨rfl, h1, h2⟩
          have M1 : Hid (Own w u1 w.heap.size (addS S sp)) := hM.out.next h1 h2
          have G1 : Hid (Good (addS S sp)) := hG.out.add sp
          have Q1 : Hid ((addS S sp).q = a0) := by show _ = _; first | rw [add_q, hQ.out] | rw [rem_q, hQ.out] | rw [yld_q, hQ.out] | rw [tck_q, hQ.out]
          clear h1 h2 hM hG
          go_wp2_with fail
          go_roundw
          case rel => exact ⟨k + 1, addS S sp, by omega, by omega, by go_num, G1, Q1, M1⟩
          case measure => simp [intOf]; omega
        have c1' : (kd == 1) = false := by simp [c1]
        go_wp2_with fail
        refine (TC.out S hG.out _ hM.out.1).mono ?_
        rintro e u1 ⟨rfl, h1, h2⟩
        have M1 : Hid (Own w u1 w.heap.size (tckS S)) := hM.out.next h1 h2
        have G1 : Hid (Good (tckS S)) := hG.out.tck
        have Q1 : Hid ((tckS S).q = a0) := by show _ = _; first | rw [add_q, hQ.out] | rw [rem_q, hQ.out] | rw [yld_q, hQ.out] | rw [tck_q, hQ.out]
        clear h1 h2 hM hG
        go_wp2_with fail
        go_roundw
        case rel => exact ⟨k + 1, tckS S, by omega, by omega, by go_num, G1, Q1, M1⟩
        case measure => simp [intOf]; omega
      · have hd : decide ((k : Int) < (n1 : Int)) = true := by simp; omega
        have hd2 : decide ((k : Int) < 40) = false := by simp; omega
        have hd3 : ¬ (k : Int) < 40 := by omega
        go_wp2_with fail
        refine (RM.out S hG.out a2 _ hM.out.1).mono ?_
        rintro e u1 ⟨rfl, h1, h2⟩
        have M1 : Hid (Own w u1 w.heap.size (remS S a2)) := hM.out.next h1 h2
        have G1 : Hid (Good (remS S a2)) := hG.out.rem a2
        have N1 : Hid (a2 ∉ (remS S a2).L) := rem_not hG.out a2
        clear h1 h2 hM hG hQ hk hk40 hd3
        go_wp2_with fail
        go_loopw [10] (fun x W => ∃ (j : Nat) (S : Qu), j ≤ 40 ∧ x = .int .i64 j ∧ Hid (Good S) ∧ Hid (a2 ∉ S.L) ∧ Hid (Own w W w.heap.size S)) (fun x _ => 40 - (intOf x).toNat)
        case atStart => exact ⟨0, remS S a2, by omega, rfl, G1, N1, M1⟩
        case round =>
          obtain ⟨j, S2, hj, rfl, hG2, hN2, hM2⟩ := hrel
          by_cases jlt : j < 40
          · have jd : decide ((j : Int) < 40) = true := by simp; omega
            have NN := NO.out S2
            have G3 : Hid (Good (tckS S2)) := hG2.out.tck
            have N3 : Hid (a2 ∉ (tckS S2).L) := fun z => hN2.out ((tck_mem S2 a2).1 z)
            rcases now_not hN2.out with ⟨v1, v2⟩ | ⟨v1, v2⟩
            · rw [v1, v2] at NN
              have NN2 : Hid _ := NN
              clear NN v1 v2
              go_wp2_with fail
              refine (NN2.out _ hM2.out.1).mono ?_
              rintro e u2 ⟨rfl, hb⟩
              have M3 : Hid (Own w u2 w.heap.size S2) := hM2.out.grow hb
              clear hb hM2
              go_wp2_with fail
              refine (TC.out S2 hG2.out _ M3.out.1).mono ?_
              rintro e u3 ⟨rfl, h1, h2⟩
              have M4 : Hid (Own w u3 w.heap.size (tckS S2)) := M3.out.next h1 h2
              clear h1 h2 M3
              go_wp2_with fail
              go_roundw
              case rel => exact ⟨j + 1, tckS S2, by omega, by go_num, G3, N3, M4⟩
              case measure => simp [intOf]; omega
            · rw [v2] at NN
              generalize nowV S2.L = x at NN v1
              have vb : (x == a2) = false := by simp [v1]
              have NN2 : Hid _ := NN
              clear NN v2
              go_wp2_with fail
              refine (NN2.out _ hM2.out.1).mono ?_
              rintro e u2 ⟨rfl, hb⟩
              have M3 : Hid (Own w u2 w.heap.size S2) := hM2.out.grow hb
              clear hb hM2
              go_wp2_with fail
              refine (TC.out S2 hG2.out _ M3.out.1).mono ?_
              rintro e u3 ⟨rfl, h1, h2⟩
              have M4 : Hid (Own w u3 w.heap.size (tckS S2)) := M3.out.next h1 h2
              clear h1 h2 M3
              go_wp2_with fail
              go_roundw
              case rel => exact ⟨j + 1, tckS S2, by omega, by go_num, G3, N3, M4⟩
              case measure => simp [intOf]; omega
          · obtain rfl : j = 40 := by omega
            have ad := AD.out S2 hG2.out a2
            obtain ⟨e1, e2⟩ := add_new (S := S2) (by omega) (by omega) hN2.out
            have G3 : Hid (Good (addS S2 a2)) := hG2.out.add a2
            have ad2 := AD.out (addS S2 a2) G3.out a2
            have e3 := add_again (S := S2) (p := a2) (by omega) (by omega) hN2.out
            have LL := LI.out (addS S2 a2)
            rw [e1] at ad
            rw [e3] at ad2
            obtain ⟨m, hm⟩ : ∃ m, m = S2.L.length := ⟨_, rfl⟩
            have el : (addS S2 a2).L.length = m + 1 := by rw [e2, hm]; simp
            have ev : ∀ h, (addS S2 a2).L[m]'h = a2 := fun h => by simp [e2, hm]
            have mf := G3.out.few
            rw [el] at LL mf
            have IJ : Hid (∀ (W : World) (p : Option Addr) (b : Nat), IsI W p (addS S2 a2).L b → ∃ g, p = some ⟨g, 0, none⟩ ∧ b ≤ g ∧ g < W.heap.size ∧ W.cell? ⟨g, m, none⟩ = some (.int .i64 a2)) := fun W p b h => by
              obtain ⟨g, e, l0, l, c⟩ := h m (by omega)
              exact ⟨g, e, l0, l, by rw [c, ev]⟩
            have aa : Hid _ := ad
            have aa2 : Hid _ := ad2
            have ll : Hid _ := LL
            clear ad ad2 LL e1 e2 e3 el ev hm AD RM TC YL NO TI LI
            have m1 : decide ((0 : Int) < (m : Int) + 1) = true := by first | (simp; done) | (simp; omega)
            have m2 : (a2 == a2) = true := by simp
            go_wp2_with fail
            refine (aa.out _ hM2.out.1).mono ?_
            rintro e u3 ⟨rfl, h1, h2⟩
            have M3 : Hid (Own w u3 w.heap.size (addS S2 a2)) := hM2.out.next h1 h2
            clear h1 h2 hM2
            generalize addS S2 a2 = S3 at *
            go_wp2_with fail
            refine (ll.out _ M3.out.1).mono ?_
            rintro e u4 ⟨⟨pL, cL, rfl, hI⟩, hb⟩
            have M4 : Hid (Own w u4 w.heap.size S3) := M3.out.grow hb
            obtain ⟨g, rfl, gl0, gl, gc⟩ := IJ.out _ _ _ hI
            have gne : g ≠ w.heap.size := by have := blk_lt M3.out.1.blk; omega
            clear hb hI gl0
            go_wp2_with fail
            refine (AWH.out _).mono ?_
            rintro e u5 ⟨rfl, hb⟩
            have M5 : Hid (Own w u5 w.heap.size S3) := M4.out.grow hb
            have gc5 : u5.cell? ⟨g, m, none⟩ = some (.int .i64 a2) := (World.cell?_of_block (hb.block g gl)).trans gc
            have gl5 : g < u5.heap.size := Nat.lt_of_lt_of_le gl hb.size
            clear hb M3 M4 gc gl
            go_wp2_with fail
            refine (aa2.out _ M5.out.1).mono ?_
            rintro e u6 ⟨rfl, h1, h2⟩
            have M6 : Hid (Below w.heap.size w u6) := (M5.out.next h1 h2).2.1
            clear h1 h2
            go_wp2_with fail
            go_ret
            exact ⟨rfl, M6.out⟩
    · have hd : decide ((k : Int) < (n1 : Int)) = false := by simp; omega
      have hd3 : ¬ (k : Int) < (n1 : Int) := by omega
      go_wp2_with fail
      refine (RM.out S hG.out a2 _ hM.out.1).mono ?_
      rintro e u1 ⟨rfl, h1, h2⟩
      have M1 : Hid (Own w u1 w.heap.size (remS S a2)) := hM.out.next h1 h2
      have G1 : Hid (Good (remS S a2)) := hG.out.rem a2
      have N1 : Hid (a2 ∉ (remS S a2).L) := rem_not hG.out a2
      clear h1 h2 hM hG hQ hk hk40 hd3
      go_wp2_with fail
      go_loopw [10] (fun x W => ∃ (j : Nat) (S : Qu), j ≤ 40 ∧ x = .int .i64 j ∧ Hid (Good S) ∧ Hid (a2 ∉ S.L) ∧ Hid (Own w W w.heap.size S)) (fun x _ => 40 - (intOf x).toNat)
      case atStart => exact ⟨0, remS S a2, by omega, rfl, G1, N1, M1⟩
      case round =>
        obtain ⟨j, S2, hj, rfl, hG2, hN2, hM2⟩ := hrel
        by_cases jlt : j < 40
        · have jd : decide ((j : Int) < 40) = true := by simp; omega
          have NN := NO.out S2
          have G3 : Hid (Good (tckS S2)) := hG2.out.tck
          have N3 : Hid (a2 ∉ (tckS S2).L) := fun z => hN2.out ((tck_mem S2 a2).1 z)
          rcases now_not hN2.out with ⟨v1, v2⟩ | ⟨v1, v2⟩
          · rw [v1, v2] at NN
            have NN2 : Hid _ := NN
            clear NN v1 v2
            go_wp2_with fail
            refine (NN2.out _ hM2.out.1).mono ?_
            rintro e u2 ⟨rfl, hb⟩
            have M3 : Hid (Own w u2 w.heap.size S2) := hM2.out.grow hb
            clear hb hM2
            go_wp2_with fail
            refine (TC.out S2 hG2.out _ M3.out.1).mono ?_
            rintro e u3 ⟨rfl, h1, h2⟩
            have M4 : Hid (Own w u3 w.heap.size (tckS S2)) := M3.out.next h1 h2
            clear h1 h2 M3
            go_wp2_with fail
            go_roundw
            case rel => exact ⟨j + 1, tckS S2, by omega, by go_num, G3, N3, M4⟩
            case measure => simp [intOf]; omega
          · rw [v2] at NN
            generalize nowV S2.L = x at NN v1
            have vb : (x == a2) = false := by simp [v1]
            have NN2 : Hid _ := NN
            clear NN v2
            go_wp2_with fail
            refine (NN2.out _ hM2.out.1).mono ?_
            rintro e u2 ⟨rfl, hb⟩
            have M3 : Hid (Own w u2 w.heap.size S2) := hM2.out.grow hb
            clear hb hM2
            go_wp2_with fail
            refine (TC.out S2 hG2.out _ M3.out.1).mono ?_
            rintro e u3 ⟨rfl, h1, h2⟩
            have M4 : Hid (Own w u3 w.heap.size (tckS S2)) := M3.out.next h1 h2
            clear h1 h2 M3
            go_wp2_with fail
            go_roundw
            case rel => exact ⟨j + 1, tckS S2, by omega, by go_num, G3, N3, M4⟩
            case measure => simp [intOf]; omega
        · obtain rfl : j = 40 := by omega
          have ad := AD.out S2 hG2.out a2
          obtain ⟨e1, e2⟩ := add_new (S := S2) (by omega) (by omega) hN2.out
          have G3 : Hid (Good (addS S2 a2)) := hG2.out.add a2
          have ad2 := AD.out (addS S2 a2) G3.out a2
          have e3 := add_again (S := S2) (p := a2) (by omega) (by omega) hN2.out
          have LL := LI.out (addS S2 a2)
          rw [e1] at ad
          rw [e3] at ad2
          obtain ⟨m, hm⟩ : ∃ m, m = S2.L.length := ⟨_, rfl⟩
          have el : (addS S2 a2).L.length = m + 1 := by rw [e2, hm]; simp
          have ev : ∀ h, (addS S2 a2).L[m]'h = a2 := fun h => by simp [e2, hm]
          have mf := G3.out.few
          rw [el] at LL mf
          have IJ : Hid (∀ (W : World) (p : Option Addr) (b : Nat), IsI W p (addS S2 a2).L b → ∃ g, p = some ⟨g, 0, none⟩ ∧ b ≤ g ∧ g < W.heap.size ∧ W.cell? ⟨g, m, none⟩ = some (.int .i64 a2)) := fun W p b h => by
            obtain ⟨g, e, l0, l, c⟩ := h m (by omega)
            exact ⟨g, e, l0, l, by rw [c, ev]⟩
          have aa : Hid _ := ad
          have aa2 : Hid _ := ad2
          have ll : Hid _ := LL
          clear ad ad2 LL e1 e2 e3 el ev hm AD RM TC YL NO TI LI
          have m1 : decide ((0 : Int) < (m : Int) + 1) = true := by first | (simp; done) | (simp; omega)
          have m2 : (a2 == a2) = true := by simp
          go_wp2_with fail
          refine (aa.out _ hM2.out.1).mono ?_
          rintro e u3 ⟨rfl, h1, h2⟩
          have M3 : Hid (Own w u3 w.heap.size (addS S2 a2)) := hM2.out.next h1 h2
          clear h1 h2 hM2
          generalize addS S2 a2 = S3 at *
          go_wp2_with fail
          refine (ll.out _ M3.out.1).mono ?_
          rintro e u4 ⟨⟨pL, cL, rfl, hI⟩, hb⟩
          have M4 : Hid (Own w u4 w.heap.size S3) := M3.out.grow hb
          obtain ⟨g, rfl, gl0, gl, gc⟩ := IJ.out _ _ _ hI
          have gne : g ≠ w.heap.size := by have := blk_lt M3.out.1.blk; omega
          clear hb hI gl0
          go_wp2_with fail
          refine (AWH.out _).mono ?_
          rintro e u5 ⟨rfl, hb⟩
          have M5 : Hid (Own w u5 w.heap.size S3) := M4.out.grow hb
          have gc5 : u5.cell? ⟨g, m, none⟩ = some (.int .i64 a2) := (World.cell?_of_block (hb.block g gl)).trans gc
          have gl5 : g < u5.heap.size := Nat.lt_of_lt_of_le gl hb.size
          clear hb M3 M4 gc gl
          go_wp2_with fail
          refine (aa2.out _ M5.out.1).mono ?_
          rintro e u6 ⟨rfl, h1, h2⟩
          have M6 : Hid (Below w.heap.size w u6) := (M5.out.next h1 h2).2.1
          clear h1 h2
          go_wp2_with fail
          go_ret
          exact ⟨rfl, M6.out⟩

theorem own : ownKnob Try.prog.godebug = none := by kernel_rfl
theorem laidOut : laidOutB Try.prog = true := by kernel_rfl
set_option maxRecDepth 100000 in
theorem lifted (os : Os) (started : os.Started) (H : Type) (enc : TypeId × Value → H) :
    ReturnsInHanded {} Try.checked os 6 .any (Rows.schedGoneSpec.pre6 enc Try.prog Try.f6 Rows.schedGoneRow.domain false) (Rows.schedGoneSpec.post enc Try.prog Try.f6 false true false false) := by
  refine returnsInHanded_of_change (C := Try.checked) own started (by kernel_rfl) Try.func6
    (ChangeSpec.witness6 (enc := enc) (C := Try.checked) false ⟨#[], #[.int .i64 0, .slice none 0 0, .int .i64 0], []⟩ 8 (by kernel_rfl) (by kernel_rfl) (by kernel_rfl) (by kernel_rfl)) ?_
  intro W base args ds gs before hval0 hW hcnd _
  have hval : ∀ (j : Nat) t v, Try.f6.params[j]? = some t → args[j]? = some v → Value.okWide Try.prog W .any base t v := hval0
  have hW' := hW
  obtain ⟨p, q, hA0, hV, hbef, hfz, hnd⟩ := hW
  have hA : DataW.TrodAll enc Try.prog W 0 (fun _ => true) true Try.f6.params.toList args.toList ds p := hA0
  have hAk := hA
  have hlt : ∀ x ∈ p, x.block < W.heap.size := fun x hx => hW'.lt x (by rw [hbef]; exact List.mem_append_left _ hx)
  rw [Try.params6] at hA hval
  obtain ⟨v0, vs0, d0, ds0, p0, q0, hargs, rfl, hp0, h0, r0⟩ := trodAll_cons hA
  obtain ⟨v1, vs1, d1, ds1, p1, q1, rfl, rfl, hp1, h1, r1⟩ := trodAll_cons r0
  obtain ⟨v2, vs2, d2, ds2, p2, q2, rfl, rfl, hp2, h2, r2⟩ := trodAll_cons r1
  obtain ⟨rfl, rfl, hpz⟩ := trodAll_nil r2
  obtain rfl : args = #[v0, v1, v2] := by cases args; simp_all
  obtain ⟨rfl, rfl⟩ := trodVars_none hV
  obtain ⟨a0, rfl, _, _, w0⟩ := open_int Try.underlying3 (hval 0 3 v0 rfl rfl) h0
  obtain ⟨p1, n1, c1, A1, rfl, m1, H1⟩ := open_acts (hval 1 22 v1 rfl rfl) h1
  obtain ⟨a2, rfl, _, _, w2⟩ := open_int Try.underlying3 (hval 2 3 v2 rfl rfl) h2
  clear hA0 hval0
  refine (walk a0 w0 p1 n1 c1 A1 m1 a2 w2 W H1).mono fun e W' ⟨he, hg⟩ => ?_
  subst he
  exact ⟨_, rfl, ⟨_, _, _, [], p, [], hW', (trodAll_cons_mk (shut_bool Try.underlying4 _) trodAll_mk0), args_stay laidOut hg (by kernel_rfl) hAk hlt, rfl, hg.frame _, fun h => by cases h⟩⟩

theorem over : Rows.schedGoneRow.holds Try.pinned (OpenSpec.ofChange Rows.schedGoneSpec) :=
  OpenClaim.holds_of_wide 6 Try.f6 rfl rfl rfl rfl rfl rfl rfl ⟨rfl, rfl, rfl, rfl, rfl⟩ rfl rfl rfl rfl rfl (by kernel_rfl) Try.func6 (by kernel_rfl)
    (of_decide_eq_true (by kernel_rfl)) (by unfold Func.isWrapper; first | (rw [if_pos (by decide +kernel)]; kernel_rfl) | (rw [if_neg (by decide +kernel)]; exact ⟨rfl, rfl⟩))
    (fun os started H enc _ => lifted os started H enc)

theorem proved : Rows.SchedGoneSaid :=
  over
#print axioms proved
end Go.Proofs.Ytcamghafjgjgdaa.schedGone
