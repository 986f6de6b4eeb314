/- For any length of turns, any calls and any number of yields from 0 to 40: behind any 40 calls, who yields again and again comes round as often as there are processes, with no ticks gone by each time; no condition. -/
import Derived.Test.YtcamghafjgjgdaaRows
import Derived.ProofKit
import Derived.OpenShut
import Derived.Carry
import Derived.Test.YtcamghafjgjgdaaH7
namespace Go.Proofs.Ytcamghafjgjgdaa.schedYields
open Go.ChangeShapes Go.WideShapes Go.ChangeAt Go.RowKit Go.Maps
set_option linter.unusedSimpArgs false
set_option linter.unusedVariables false

set_option maxRecDepth 8000 in
set_option maxHeartbeats 8000000 in
theorem walk (a0 : Int) (w0 : (Lit.int .i64 a0).wf = true) (p1 : Option Addr) (n1 c1 : Nat) (A1 : Nat → Ac) (m1 : n1 ≤ maxLen) (a2 : Int) (w2 : (Lit.int .i64 a2).wf = true) (w : World) (H1 : IsActs w p1 n1 A1) :
    Calls Try.prog 7 #[.int .i64 a0, .slice p1 n1 c1, .int .i64 a2] w fun e w' => e = .returned (.bool true) ∧ Below w.heap.size w w' := by
  have AWH : Hid (∀ W : World, Calls Try.prog 9 #[] W fun e w' => e = .returned (.bool true) ∧ Below W.heap.size W w') := fun W => awake_any W
  by_cases q0 : a0 < 1 ∨ 1000 < a0
  · have NW : Hid (∀ W : World, Calls Try.prog 8 #[.int .i64 a0] W fun e w' => e = .returned (.tuple #[.pointer none, .int .i64 1]) ∧ w' = W) := fun W => new_no a0 q0 W
    go_enter Try.func7, Try.ntmps7
    go_wp2_with fail
    refine (NW.out _).mono ?_
    rintro e u ⟨rfl, hu⟩
    have hu2 := hu.symm
    subst hu2
    clear hu
    go_wp2_with fail
    refine (AWH.out _).mono ?_
    rintro e u9 ⟨rfl, hb⟩
    have B9 : Hid (Below w.heap.size w u9) := hb
    clear hb
    go_wp2_with fail
    go_ret
    exact ⟨rfl, B9.out⟩
  have NW : Hid (Calls Try.prog 8 #[.int .i64 a0] w fun e w' => e = .returned (.tuple #[.pointer (some ⟨w.heap.size, 0, none⟩), .int .i64 0]) ∧ Own w w' w.heap.size ⟨a0, 0, []⟩) := new_ok a0 (by omega) (by omega) w
  by_cases x1 : a2 < 0
  · have dx1 : decide (a2 < 0) = true := by simp; omega
    go_enter Try.func7, Try.ntmps7
    go_wp2_with fail
    refine NW.out.mono ?_
    rintro e u0 ⟨rfl, h0⟩
    have M0 : Hid (Own w u0 w.heap.size ⟨a0, 0, []⟩) := h0
    clear h0 NW
    go_wp2_with fail
    refine (AWH.out _).mono ?_
    rintro e u9 ⟨rfl, hb⟩
    have B9 : Hid (Below w.heap.size w u9) := (below_then M0.out.2.1 hb)
    clear hb
    go_wp2_with fail
    go_ret
    exact ⟨rfl, B9.out⟩
  have dx1 : decide (a2 < 0) = false := by simp; omega
  by_cases x2 : 40 < a2
  · have dx2 : decide (40 < a2) = true := by simp; omega
    go_enter Try.func7, Try.ntmps7
    go_wp2_with fail
    refine NW.out.mono ?_
    rintro e u0 ⟨rfl, h0⟩
    have M0 : Hid (Own w u0 w.heap.size ⟨a0, 0, []⟩) := h0
    clear h0 NW
    go_wp2_with fail
    refine (AWH.out _).mono ?_
    rintro e u9 ⟨rfl, hb⟩
    have B9 : Hid (Below w.heap.size w u9) := (below_then M0.out.2.1 hb)
    clear hb
    go_wp2_with fail
    go_ret
    exact ⟨rfl, B9.out⟩
  have dx2 : decide (40 < a2) = false := by simp; omega
  have AD : Hid (∀ (S : Qu), Good S → ∀ p : Int, ∀ W : World, IsQ W w.heap.size S → Calls Try.prog 10 #[.pointer (some ⟨w.heap.size, 0, none⟩), .int .i64 p] W fun e w' => e = .returned (.int .i64 (addE S p)) ∧ IsQ w' w.heap.size (addS S p) ∧ Kb w.heap.size W w') := fun S g p W h => add_any _ S p g W h
  have RM : Hid (∀ (S : Qu), Good S → ∀ p : Int, ∀ W : World, IsQ W w.heap.size S → Calls Try.prog 12 #[.pointer (some ⟨w.heap.size, 0, none⟩), .int .i64 p] W fun e w' => e = .returned (.int .i64 (remE S p)) ∧ IsQ w' w.heap.size (remS S p) ∧ Kb w.heap.size W w') := fun S g p W h => rem_any _ S p g W h
  have YL : Hid (∀ (S : Qu), ∀ W : World, IsQ W w.heap.size S → Calls Try.prog 14 #[.pointer (some ⟨w.heap.size, 0, none⟩)] W fun e w' => e = .returned (.tuple #[]) ∧ IsQ w' w.heap.size (yldS S) ∧ Kb w.heap.size W w') := fun S W h => yld_any _ S W h
  have TC : Hid (∀ (S : Qu), Good S → ∀ W : World, IsQ W w.heap.size S → Calls Try.prog 17 #[.pointer (some ⟨w.heap.size, 0, none⟩)] W fun e w' => e = .returned (.bool (tckB S)) ∧ IsQ w' w.heap.size (tckS S) ∧ Kb w.heap.size W w') := fun S g W h => tck_any _ S g W h
  have NO : Hid (∀ (S : Qu), ∀ W : World, IsQ W w.heap.size S → Calls Try.prog 18 #[.pointer (some ⟨w.heap.size, 0, none⟩)] W fun e w' => e = .returned (.tuple #[.int .i64 (nowV S.L), .bool (nowB S.L)]) ∧ Below W.heap.size W w') := fun S W h => now_any _ S W h
  have TI : Hid (∀ (S : Qu), ∀ W : World, IsQ W w.heap.size S → Calls Try.prog 21 #[.pointer (some ⟨w.heap.size, 0, none⟩)] W fun e w' => e = .returned (.int .i64 S.t) ∧ w' = W) := fun S W h => ticks_any _ S W h
  have LI : Hid (∀ (S : Qu), ∀ W : World, IsQ W w.heap.size S → Calls Try.prog 20 #[.pointer (some ⟨w.heap.size, 0, none⟩)] W fun e w' => (∃ p c, e = .returned (.slice p S.L.length c) ∧ IsI w' p S.L W.heap.size) ∧ Below W.heap.size W w') := fun S W h => line_any _ S W h
  obtain ⟨n, rfl⟩ : ∃ n : Nat, a2 = n := ⟨a2.toNat, by omega⟩
  have n9 : n ≤ 40 := by omega
  have mm : (n1 : Int) ≤ 9223372036854775807 := by have : maxLen ≤ 9223372036854775807 := by decide +kernel
                                                   omega
  have HA : Hid (IsActs w p1 n1 A1) := H1
  have GF : Hid (Good ⟨a0, 0, []⟩) := fresh_good a0 (by omega) (by omega)
  clear q0 H1
  go_enter Try.func7, Try.ntmps7
  go_wp2_with fail
  refine NW.out.mono ?_
  rintro e u0 ⟨rfl, h0⟩
  have M0 : Hid (Own w u0 w.heap.size ⟨a0, 0, []⟩) := h0
  clear h0 NW
  go_wp2_with fail
  go_loopw [9] (fun x W => ∃ (k : Nat) (S : Qu), k ≤ n1 ∧ k ≤ 40 ∧ x = .int .i64 k ∧ Hid (Good S) ∧ Hid (Own w W w.heap.size S)) (fun x _ => 41 - (intOf x).toNat)
  case atStart => exact ⟨0, ⟨a0, 0, []⟩, by omega, by omega, rfl, GF, M0⟩
  case round =>
    obtain ⟨k, S, hk, hk40, rfl, hG, hM⟩ := hrel
    by_cases hlt : k < n1
    · by_cases h40 : k < 40
      · have hd : decide ((k : Int) < (n1 : Int)) = true := by simp; omega
        have hd2 : decide ((k : Int) < 40) = true := by simp; omega
        obtain ⟨bq, oq, rfl, lq, y0, y1, wf⟩ := HA.out k hlt
        have z0 : wr.cell? ⟨bq, oq + k * 2, none⟩ = some (.int .i64 (A1 k).kind) := (World.cell?_of_block (hM.out.2.1.block bq lq)).trans y0
        have z1 : wr.cell? ⟨bq, oq + k * 2 + 1, none⟩ = some (.int .i64 (A1 k).sp) := (World.cell?_of_block (hM.out.2.1.block bq lq)).trans y1
        have lq2 : bq < wr.heap.size := Nat.lt_of_lt_of_le lq hM.out.2.1.size
        clear y0 y1
        generalize A1 k = ac at z0 z1 wf
        obtain ⟨kd, sp⟩ := ac
        simp only at z0 z1 wf
        by_cases c1 : kd = 1
        · have c1' : (kd == 1) = true := by simp [c1]
          subst c1
          go_wp2_with fail
          refine (AD.out S hG.out sp _ hM.out.1).mono ?_
          rintro e u1 ⟨rfl, h1, h2⟩
          have M1 : Hid (Own w u1 w.heap.size (addS S sp)) := hM.out.next h1 h2
          have G1 : Hid (Good (addS S sp)) := hG.out.add sp
          clear h1 h2 hM hG
          go_wp2_with fail
          go_roundw
          case rel => exact ⟨k + 1, addS S sp, by omega, by omega, by go_num, G1, M1⟩
          case measure => simp [intOf]; omega
        · have c1' : (kd == 1) = false := by simp [c1]
          by_cases c4 : kd = 4
          · have c4' : (kd == 4) = true := by simp [c4]
            subst c4
            go_wp2_with fail
            refine (TC.out S hG.out _ hM.out.1).mono ?_
            rintro e u1 ⟨rfl, h1, h2⟩
            have M1 : Hid (Own w u1 w.heap.size (tckS S)) := hM.out.next h1 h2
            have G1 : Hid (Good (tckS S)) := hG.out.tck
            clear h1 h2 hM hG
            go_wp2_with fail
            go_roundw
            case rel => exact ⟨k + 1, tckS S, by omega, by omega, by go_num, G1, M1⟩
            case measure => simp [intOf]; omega
          · have c4' : (kd == 4) = false := by simp [c4]
            go_wp2_with fail
            go_roundw
            case rel => exact ⟨k + 1, S, by omega, by omega, by go_num, hG, hM⟩
            case measure => simp [intOf]; omega
      · have hd : decide ((k : Int) < (n1 : Int)) = true := by simp; omega
        have hd2 : decide ((k : Int) < 40) = false := by simp; omega
        have hd3 : ¬ (k : Int) < 40 := by omega
        go_wp2_with fail
        clear AD RM TC HA hk hk40 hd3
        obtain ⟨qs, ts, L⟩ := S
        refine (LI.out _ _ hM.out.1).mono ?_
        rintro e u1 ⟨⟨pL, cL, rfl, hI⟩, hb⟩
        have M1 : Hid (Own w u1 w.heap.size ⟨qs, ts, L⟩) := hM.out.grow hb
        have IL : Hid (IsI u1 pL L (w.heap.size + 1)) := fun i hi => by
          obtain ⟨g, e, l1, l2, c⟩ := hI i hi
          have := blk_lt hM.out.1.blk
          exact ⟨g, e, by omega, l2, c⟩
        have lf : L.length ≤ 16 := hG.out.few
        clear hb hI hM
        obtain ⟨m, hm⟩ : ∃ m, m = L.length := ⟨_, rfl⟩
        rw [← hm] at lf
        simp only
        rw [← hm]
        have Hm : Hid (m = L.length) := hm
        clear hm
        go_wp2_with fail
        go_loopw [11] (fun x W => ∃ (j : Nat) (S : Qu), j ≤ n ∧ x = .int .i64 j ∧ Hid (Good S) ∧ Hid (S.L = rotN L j) ∧ Hid (Own w W w.heap.size S) ∧ Hid (IsI W pL L (w.heap.size + 1))) (fun x _ => n - (intOf x).toNat)
        case atStart => exact ⟨0, ⟨qs, ts, L⟩, by omega, rfl, hG, (rot_zero L).symm, M1, IL⟩
        case round =>
          obtain ⟨j, S, hj, rfl, hGj, hR, hMj, hIj⟩ := hrel
          by_cases jlt : j < n
          · have jd : decide ((j : Int) < (n : Int)) = true := by simp; omega
            have G2 : Hid (Good (yldS S)) := hGj.out.yld
            have R2 : Hid ((yldS S).L = rotN L (j + 1)) := by show _ = _; rw [yld_L, hR.out, rot_next]
            have T2 := yld_t hGj.out
            have YY := YL.out S
            have NN := NO.out (yldS S)
            have TT := TI.out (yldS S)
            rw [T2] at TT
            have YY : Hid _ := YY
            have NN : Hid _ := NN
            have TT : Hid _ := TT
            clear T2
            generalize yldS S = S2 at YY NN TT G2 R2
            by_cases mz : m = 0
            · have Lz : S2.L = [] := by
                have := rot_len L (j + 1)
                rw [← R2.out, ← Hm.out, mz] at this
                exact List.length_eq_zero_iff.1 this
              rw [Lz] at NN
              have NN2 : Hid (∀ W : World, IsQ W w.heap.size S2 → Calls Try.prog 18 #[.pointer (some ⟨w.heap.size, 0, none⟩)] W fun e w' => e = .returned (.tuple #[.int .i64 0, .bool false]) ∧ Below W.heap.size W w') := NN
              clear NN Lz
              subst mz
              go_wp2_with fail
              refine (YY.out _ hMj.out.1).mono ?_
              rintro e u2 ⟨rfl, h1, h2⟩
              have M2 : Hid (Own w u2 w.heap.size S2) := hMj.out.next h1 h2
              have I1 : Hid (IsI u2 _ L (w.heap.size + 1)) := hIj.out.kb h2 (by omega)
              clear h1 h2 hMj hIj
              go_wp2_with fail
              refine (NN2.out _ M2.out.1).mono ?_
              rintro e u3 ⟨rfl, hb⟩
              have M3 : Hid (Own w u3 w.heap.size S2) := M2.out.grow hb
              have I2 : Hid (IsI u3 _ L (w.heap.size + 1)) := I1.out.below hb
              clear hb M2 I1
              go_wp2_with fail
              refine (TT.out _ M3.out.1).mono ?_
              rintro e u4 ⟨rfl, hu⟩
              subst hu
              go_wp2_with fail
              go_roundw
              case rel => exact ⟨j + 1, S2, by omega, by go_num, G2, R2, M3, I2⟩
              case measure => simp [intOf]; omega
            · have mp : 0 < L.length := by have := Hm.out; omega
              obtain ⟨v1, v2⟩ := rot_now L (j + 1) mp
              rw [R2.out, v1, v2] at NN
              obtain ⟨r, hr⟩ : ∃ r, r = (j + 1) % m := ⟨_, rfl⟩
              have rl : r < m := by rw [hr]; exact Nat.mod_lt _ (by omega)
              obtain ⟨v, hv⟩ : ∃ v, v = L[r]'(by have := Hm.out; omega) := ⟨_, rfl⟩
              have hv2 : v = L[(j + 1) % L.length]'(Nat.mod_lt _ mp) := by rw [hv]; congr 1; rw [hr, Hm.out]
              rw [← hv2] at NN
              have IJ : Hid (∀ W : World, IsI W pL L (w.heap.size + 1) → ∃ g, pL = some ⟨g, 0, none⟩ ∧ g < W.heap.size ∧ W.cell? ⟨g, r, none⟩ = some (.int .i64 v)) := fun W h => by
                obtain ⟨g, e, _, l, c⟩ := h r (by have := Hm.out; omega)
                exact ⟨g, e, l, by rw [hv]; exact c⟩
              have t1 : ((j : Int) + 1).tmod (m : Int) = (r : Int) := by
                rw [hr, Int.tmod_eq_emod_of_nonneg (by omega)]; simp
              clear hv hv2 v1 v2 hr
              have NN2 : Hid (∀ W : World, IsQ W w.heap.size S2 → Calls Try.prog 18 #[.pointer (some ⟨w.heap.size, 0, none⟩)] W fun e w' => e = .returned (.tuple #[.int .i64 v, .bool true]) ∧ Below W.heap.size W w') := NN
              clear NN
              have md : decide ((0 : Int) < (m : Int)) = true := by simp; omega
              have md2 : decide (0 < m) = true := by simp; omega
              have md3 : 0 < m := by omega
              have md4 : ((m : Int) == 0) = false := by simp; omega
              have md5 : ((m : Int) == -1) = false := by simp
              have md6 : ¬ (m : Int) = 0 := by omega
              have vv : (v == v) = true := by simp
              obtain ⟨gL, rfl, _, _⟩ := IJ.out _ hIj.out
              go_wp2_with fail
              refine (YY.out _ hMj.out.1).mono ?_
              rintro e u2 ⟨rfl, h1, h2⟩
              have M2 : Hid (Own w u2 w.heap.size S2) := hMj.out.next h1 h2
              have I1 : Hid (IsI u2 _ L (w.heap.size + 1)) := hIj.out.kb h2 (by omega)
              clear h1 h2 hMj hIj
              go_wp2_with fail
              refine (NN2.out _ M2.out.1).mono ?_
              rintro e u3 ⟨rfl, hb⟩
              have M3 : Hid (Own w u3 w.heap.size S2) := M2.out.grow hb
              have I2 : Hid (IsI u3 _ L (w.heap.size + 1)) := I1.out.below hb
              clear hb M2 I1
              obtain ⟨gx, gxe, gxl, gxc⟩ := IJ.out _ I2.out
              obtain ⟨rfl⟩ : gL = gx := by simpa using gxe
              clear gxe
              go_wp2_with fail
              refine (TT.out _ M3.out.1).mono ?_
              rintro e u4 ⟨rfl, hu⟩
              subst hu
              go_wp2_with fail
              go_roundw
              case rel => exact ⟨j + 1, S2, by omega, by go_num, G2, R2, M3, I2⟩
              case measure => simp [intOf]; omega
          · have jd : decide ((j : Int) < (n : Int)) = false := by simp; omega
            have jd3 : ¬ (j : Int) < (n : Int) := by omega
            have LL := LI.out S
            have ll : S.L.length = m := by rw [hR.out, rot_len, Hm.out]
            rw [ll] at LL
            have LL2 : Hid _ := LL
            clear LL ll
            have mm2 : ((m : Int) == (m : Int)) = true := by simp
            go_wp2_with fail
            refine (AWH.out _).mono ?_
            rintro e u9 ⟨rfl, hb⟩
            have M9 : Hid (Own w u9 w.heap.size S) := hMj.out.grow hb
            clear hb
            go_wp2_with fail
            refine (LL2.out _ M9.out.1).mono ?_
            rintro e u8 ⟨⟨p8, c8, rfl, _⟩, hb⟩
            have B9 : Hid (Below w.heap.size w u8) := below_then M9.out.2.1 hb
            clear hb
            go_wp2_with fail
            go_ret
            exact ⟨rfl, B9.out⟩
    · have hd : decide ((k : Int) < (n1 : Int)) = false := by simp; omega
      have hd3 : ¬ (k : Int) < (n1 : Int) := by omega
      go_wp2_with fail
      clear AD RM TC HA hk hk40 hd3
      obtain ⟨qs, ts, L⟩ := S
      refine (LI.out _ _ hM.out.1).mono ?_
      rintro e u1 ⟨⟨pL, cL, rfl, hI⟩, hb⟩
      have M1 : Hid (Own w u1 w.heap.size ⟨qs, ts, L⟩) := hM.out.grow hb
      have IL : Hid (IsI u1 pL L (w.heap.size + 1)) := fun i hi => by
        obtain ⟨g, e, l1, l2, c⟩ := hI i hi
        have := blk_lt hM.out.1.blk
        exact ⟨g, e, by omega, l2, c⟩
      have lf : L.length ≤ 16 := hG.out.few
      clear hb hI hM
      obtain ⟨m, hm⟩ : ∃ m, m = L.length := ⟨_, rfl⟩
      rw [← hm] at lf
      simp only
      rw [← hm]
      have Hm : Hid (m = L.length) := hm
      clear hm
      go_wp2_with fail
      go_loopw [11] (fun x W => ∃ (j : Nat) (S : Qu), j ≤ n ∧ x = .int .i64 j ∧ Hid (Good S) ∧ Hid (S.L = rotN L j) ∧ Hid (Own w W w.heap.size S) ∧ Hid (IsI W pL L (w.heap.size + 1))) (fun x _ => n - (intOf x).toNat)
      case atStart => exact ⟨0, ⟨qs, ts, L⟩, by omega, rfl, hG, (rot_zero L).symm, M1, IL⟩
      case round =>
        obtain ⟨j, S, hj, rfl, hGj, hR, hMj, hIj⟩ := hrel
        by_cases jlt : j < n
        · have jd : decide ((j : Int) < (n : Int)) = true := by simp; omega
          have G2 : Hid (Good (yldS S)) := hGj.out.yld
          have R2 : Hid ((yldS S).L = rotN L (j + 1)) := by show _ = _; rw [yld_L, hR.out, rot_next]
          have T2 := yld_t hGj.out
          have YY := YL.out S
          have NN := NO.out (yldS S)
          have TT := TI.out (yldS S)
          rw [T2] at TT
          have YY : Hid _ := YY
          have NN : Hid _ := NN
          have TT : Hid _ := TT
          clear T2
          generalize yldS S = S2 at YY NN TT G2 R2
          by_cases mz : m = 0
          · have Lz : S2.L = [] := by
              have := rot_len L (j + 1)
              rw [← R2.out, ← Hm.out, mz] at this
              exact List.length_eq_zero_iff.1 this
            rw [Lz] at NN
            have NN2 : Hid (∀ W : World, IsQ W w.heap.size S2 → Calls Try.prog 18 #[.pointer (some ⟨w.heap.size, 0, none⟩)] W fun e w' => e = .returned (.tuple #[.int .i64 0, .bool false]) ∧ Below W.heap.size W w') := NN
            clear NN Lz
            subst mz
            go_wp2_with fail
            refine (YY.out _ hMj.out.1).mono ?_
            rintro e u2 ⟨rfl, h1, h2⟩
            have M2 : Hid (Own w u2 w.heap.size S2) := hMj.out.next h1 h2
            have I1 : Hid (IsI u2 _ L (w.heap.size + 1)) := hIj.out.kb h2 (by omega)
            clear h1 h2 hMj hIj
            go_wp2_with fail
            refine (NN2.out _ M2.out.1).mono ?_
            rintro e u3 ⟨rfl, hb⟩
            have M3 : Hid (Own w u3 w.heap.size S2) := M2.out.grow hb
            have I2 : Hid (IsI u3 _ L (w.heap.size + 1)) := I1.out.below hb
            clear hb M2 I1
            go_wp2_with fail
            refine (TT.out _ M3.out.1).mono ?_
            rintro e u4 ⟨rfl, hu⟩
            subst hu
            go_wp2_with fail
            go_roundw
            case rel => exact ⟨j + 1, S2, by omega, by go_num, G2, R2, M3, I2⟩
            case measure => simp [intOf]; omega
          · have mp : 0 < L.length := by have := Hm.out; omega
            obtain ⟨v1, v2⟩ := rot_now L (j + 1) mp
            rw [R2.out, v1, v2] at NN
            obtain ⟨r, hr⟩ : ∃ r, r = (j + 1) % m := ⟨_, rfl⟩
            have rl : r < m := by rw [hr]; exact Nat.mod_lt _ (by omega)
            obtain ⟨v, hv⟩ : ∃ v, v = L[r]'(by have := Hm.out; omega) := ⟨_, rfl⟩
            have hv2 : v = L[(j + 1) % L.length]'(Nat.mod_lt _ mp) := by rw [hv]; congr 1; rw [hr, Hm.out]
            rw [← hv2] at NN
            have IJ : Hid (∀ W : World, IsI W pL L (w.heap.size + 1) → ∃ g, pL = some ⟨g, 0, none⟩ ∧ g < W.heap.size ∧ W.cell? ⟨g, r, none⟩ = some (.int .i64 v)) := fun W h => by
              obtain ⟨g, e, _, l, c⟩ := h r (by have := Hm.out; omega)
              exact ⟨g, e, l, by rw [hv]; exact c⟩
            have t1 : ((j : Int) + 1).tmod (m : Int) = (r : Int) := by
              rw [hr, Int.tmod_eq_emod_of_nonneg (by omega)]; simp
            clear hv hv2 v1 v2 hr
            have NN2 : Hid (∀ W : World, IsQ W w.heap.size S2 → Calls Try.prog 18 #[.pointer (some ⟨w.heap.size, 0, none⟩)] W fun e w' => e = .returned (.tuple #[.int .i64 v, .bool true]) ∧ Below W.heap.size W w') := NN
            clear NN
            have md : decide ((0 : Int) < (m : Int)) = true := by simp; omega
            have md2 : decide (0 < m) = true := by simp; omega
            have md3 : 0 < m := by omega
            have md4 : ((m : Int) == 0) = false := by simp; omega
            have md5 : ((m : Int) == -1) = false := by simp
            have md6 : ¬ (m : Int) = 0 := by omega
            have vv : (v == v) = true := by simp
            obtain ⟨gL, rfl, _, _⟩ := IJ.out _ hIj.out
            go_wp2_with fail
            refine (YY.out _ hMj.out.1).mono ?_
            rintro e u2 ⟨rfl, h1, h2⟩
            have M2 : Hid (Own w u2 w.heap.size S2) := hMj.out.next h1 h2
            have I1 : Hid (IsI u2 _ L (w.heap.size + 1)) := hIj.out.kb h2 (by omega)
            clear h1 h2 hMj hIj
            go_wp2_with fail
            refine (NN2.out _ M2.out.1).mono ?_
            rintro e u3 ⟨rfl, hb⟩
            have M3 : Hid (Own w u3 w.heap.size S2) := M2.out.grow hb
            have I2 : Hid (IsI u3 _ L (w.heap.size + 1)) := I1.out.below hb
            clear hb M2 I1
            obtain ⟨gx, gxe, gxl, gxc⟩ := IJ.out _ I2.out
            obtain ⟨rfl⟩ : gL = gx := by simpa using gxe
            clear gxe
            go_wp2_with fail
            refine (TT.out _ M3.out.1).mono ?_
            rintro e u4 ⟨rfl, hu⟩
            subst hu
            go_wp2_with fail
            go_roundw
            case rel => exact ⟨j + 1, S2, by omega, by go_num, G2, R2, M3, I2⟩
            case measure => simp [intOf]; omega
        · have jd : decide ((j : Int) < (n : Int)) = false := by simp; omega
          have jd3 : ¬ (j : Int) < (n : Int) := by omega
          have LL := LI.out S
          have ll : S.L.length = m := by rw [hR.out, rot_len, Hm.out]
          rw [ll] at LL
          have LL2 : Hid _ := LL
          clear LL ll
          have mm2 : ((m : Int) == (m : Int)) = true := by simp
          go_wp2_with fail
          refine (AWH.out _).mono ?_
          rintro e u9 ⟨rfl, hb⟩
          have M9 : Hid (Own w u9 w.heap.size S) := hMj.out.grow hb
          clear hb
          go_wp2_with fail
          refine (LL2.out _ M9.out.1).mono ?_
          rintro e u8 ⟨⟨p8, c8, rfl, _⟩, hb⟩
          have B9 : Hid (Below w.heap.size w u8) := below_then M9.out.2.1 hb
          clear hb
          go_wp2_with fail
          go_ret
          exact ⟨rfl, B9.out⟩

theorem own : ownKnob Try.prog.godebug = none := by kernel_rfl
theorem laidOut : laidOutB Try.prog = true := by kernel_rfl
set_option maxRecDepth 100000 in
theorem lifted (os : Os) (started : os.Started) (H : Type) (enc : TypeId × Value → H) :
    ReturnsInHanded {} Try.checked os 7 .any (Rows.schedYieldsSpec.pre6 enc Try.prog Try.f7 Rows.schedYieldsRow.domain false) (Rows.schedYieldsSpec.post enc Try.prog Try.f7 false true false false) := by
  refine returnsInHanded_of_change (C := Try.checked) own started (by kernel_rfl) Try.func7
    (ChangeSpec.witness6 (enc := enc) (C := Try.checked) false ⟨#[], #[.int .i64 0, .slice none 0 0, .int .i64 0], []⟩ 8 (by kernel_rfl) (by kernel_rfl) (by kernel_rfl) (by kernel_rfl)) ?_
  intro W base args ds gs before hval0 hW hcnd _
  have hval : ∀ (j : Nat) t v, Try.f7.params[j]? = some t → args[j]? = some v → Value.okWide Try.prog W .any base t v := hval0
  have hW' := hW
  obtain ⟨p, q, hA0, hV, hbef, hfz, hnd⟩ := hW
  have hA : DataW.TrodAll enc Try.prog W 0 (fun _ => true) true Try.f7.params.toList args.toList ds p := hA0
  have hAk := hA
  have hlt : ∀ x ∈ p, x.block < W.heap.size := fun x hx => hW'.lt x (by rw [hbef]; exact List.mem_append_left _ hx)
  rw [Try.params7] at hA hval
  obtain ⟨v0, vs0, d0, ds0, p0, q0, hargs, rfl, hp0, h0, r0⟩ := trodAll_cons hA
  obtain ⟨v1, vs1, d1, ds1, p1, q1, rfl, rfl, hp1, h1, r1⟩ := trodAll_cons r0
  obtain ⟨v2, vs2, d2, ds2, p2, q2, rfl, rfl, hp2, h2, r2⟩ := trodAll_cons r1
  obtain ⟨rfl, rfl, hpz⟩ := trodAll_nil r2
  obtain rfl : args = #[v0, v1, v2] := by cases args; simp_all
  obtain ⟨rfl, rfl⟩ := trodVars_none hV
  obtain ⟨a0, rfl, _, _, w0⟩ := open_int Try.underlying3 (hval 0 3 v0 rfl rfl) h0
  obtain ⟨p1, n1, c1, A1, rfl, m1, H1⟩ := open_acts (hval 1 22 v1 rfl rfl) h1
  obtain ⟨a2, rfl, _, _, w2⟩ := open_int Try.underlying3 (hval 2 3 v2 rfl rfl) h2
  clear hA0 hval0
  refine (walk a0 w0 p1 n1 c1 A1 m1 a2 w2 W H1).mono fun e W' ⟨he, hg⟩ => ?_
  subst he
  exact ⟨_, rfl, ⟨_, _, _, [], p, [], hW', (trodAll_cons_mk (shut_bool Try.underlying4 _) trodAll_mk0), args_stay laidOut hg (by kernel_rfl) hAk hlt, rfl, hg.frame _, fun h => by cases h⟩⟩

theorem over : Rows.schedYieldsRow.holds Try.pinned (OpenSpec.ofChange Rows.schedYieldsSpec) :=
  OpenClaim.holds_of_wide 7 Try.f7 rfl rfl rfl rfl rfl rfl rfl ⟨rfl, rfl, rfl, rfl, rfl⟩ rfl rfl rfl rfl rfl (by kernel_rfl) Try.func7 (by kernel_rfl)
    (of_decide_eq_true (by kernel_rfl)) (by unfold Func.isWrapper; first | (rw [if_pos (by decide +kernel)]; kernel_rfl) | (rw [if_neg (by decide +kernel)]; exact ⟨rfl, rfl⟩))
    (fun os started H enc _ => lifted os started H enc)

theorem proved : Rows.SchedYieldsSaid :=
  over
#print axioms proved
end Go.Proofs.Ytcamghafjgjgdaa.schedYields
