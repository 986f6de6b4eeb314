/- For any changes: pages that are added are had more, pages that are cut are had no more, protected ones as many as ahead; behind each of any 30 changes; no condition. -/
import Derived.Test.YtgebmmacgfinaaaRows
import Derived.ProofKit
import Derived.OpenShut
import Derived.Carry
import Derived.Test.YtgebmmacgfinaaaG12
import Derived.Test.YtgebmmacgfinaaaGO
namespace Go.Proofs.Ytgebmmacgfinaaa.regionCounts
open Go.ChangeShapes Go.WideShapes Go.ChangeAt Go.RowKit Go.Maps
set_option linter.unusedSimpArgs false
set_option linter.unusedVariables false

set_option maxRecDepth 8000 in
set_option maxHeartbeats 8000000 in
theorem walk (p0 : Option Addr) (n0 c0 : Nat) (A0 : Nat → Ac) (m0 : n0 ≤ maxLen) (w : World) (H0 : IsActs w p0 n0 A0) :
    Calls Try.prog 8 #[.slice p0 n0 c0] w fun e w' => e = .returned (.bool true) ∧ Below w.heap.size w w' := by
  have AWH : Hid (∀ W : World, Calls Try.prog 16 #[] W fun e w' => e = .returned (.bool true) ∧ Below W.heap.size W w') := fun W => awake_any W
  have CN : Hid (∀ (L : List Rg), goodB L = true → ∀ (p : Option Addr) (c : Nat) (f t : Int) (W : World), IsL W 0 p L → Calls Try.prog 23 #[.slice p L.length c, .agg #[.int .i64 f, .int .i64 t]] W fun e w' => e = .returned (.int .i64 (cntR f t L)) ∧ Below W.heap.size W w') := fun L g p c f t W h => count_any 0 p c L (by have := (good_can g).2.2; omega) (good_num g) f t W h
  have DC : Hid (∀ (L : List Rg), goodB L = true → ∀ (p : Option Addr) (c : Nat), L.length ≤ c → ∀ (a : Ac) (W : World), IsL W 0 p L → Calls Try.prog 25 #[.slice p L.length c, a.val] W fun e w' => ∃ p' c', e = .returned (.tuple #[.slice p' (actL L a).length c', .int .i64 (actE L a)]) ∧ (actL L a).length ≤ c' ∧ IsL w' 0 p' (actL L a) ∧ Below W.heap.size W w') := fun L g p c hc a W h => does_any p c L (by have := (good_can g).2.2; omega) hc a W h
  have HA : Hid (IsActs w p0 n0 A0) := H0
  clear H0
  have mm : (n0 : Int) ≤ 9223372036854775807 := by have : maxLen ≤ 9223372036854775807 := by decide +kernel
                                                   omega
  go_enter Try.func8, Try.ntmps8
  go_wp2_with fail
  go_loopw [3, 5] (fun l x W => ∃ (k : Nat) (L : List Rg) (p : Option Addr) (c : Nat), k ≤ n0 ∧ k ≤ 30 ∧ l = .slice p L.length c ∧ x = .int .i64 k ∧ Hid (goodB L = true) ∧ Hid (L.length ≤ c) ∧ Hid (IsL W 0 p L) ∧ Hid (Below w.heap.size w W) ∧ Hid (W.cell? ⟨w.heap.size, 0, none⟩ = some (.int .i64 0) ∧ W.cell? ⟨w.heap.size, 1, none⟩ = some (.int .i64 34359738368) ∧ w.heap.size < W.heap.size)) (fun _ x _ => 30 - (intOf x).toNat)
  case atStart => exact ⟨0, [], none, 0, by omega, by omega, rfl, rfl, rfl, Nat.le_refl _, nil_is _, Go.Joins.below_alloc1 _ _, ⟨by simp, by simp, by simp⟩⟩
  case round =>
    obtain ⟨k, L, p, c, hk, hk3, rfl, rfl, hG, hC, hI, hB, hP⟩ := hrel
    by_cases hlt : k < n0 ∧ k < 30
    · have hd : decide ((k : Int) < (n0 : Int)) = true := by simp; omega
      have hd2 : decide ((k : Int) < 30) = true := by simp; omega
      obtain ⟨b, o, rfl, lb, cc, b1, b2⟩ := HA.out k hlt.1
      generalize A0 k = a at cc b1 b2
      have GD : Hid (goodB (actL L a) = true) := act_good hG.out a
      have CA : Hid (cntR 0 34359738368 (actL L a) = if actE L a = 0 ∧ a.how = 1 then cntR 0 34359738368 L + a.til - a.fr else if actE L a = 0 ∧ a.how = 2 then cntR 0 34359738368 L - cntR a.fr a.til L else cntR 0 34359738368 L) := act_cnt hG.out a
      have RI : Hid (actE L a = 0 → 0 ≤ a.fr ∧ a.fr < a.til ∧ a.til ≤ 34359738368) := fun q => by have := right_is (act_cases q).1; omega
      have C0 : Hid _ := CN.out L hG.out p c 0 34359738368
      have C1 : Hid _ := CN.out L hG.out p c a.fr a.til
      have D1 : Hid _ := DC.out L hG.out p c hC.out a
      have C2 : Hid _ := CN.out (actL L a) GD.out
      have C3 : Hid _ := fun (p' : Option Addr) (c' : Nat) => C2.out p' c' 0 34359738368
      obtain ⟨q0, q1⟩ := good_bd hG.out 0 34359738368
      obtain ⟨q2, q3⟩ := good_bd hG.out a.fr a.til
      generalize actE L a = E at CA RI D1
      generalize cntR 0 34359738368 L = N at CA C0 q0 q1
      generalize cntR a.fr a.til L = N1 at CA C1 q2 q3
      generalize cntR 0 34359738368 (actL L a) = N2 at CA C3
      generalize hL2 : actL L a = L2 at GD D1 C3
      have HL2 : Hid (L2.length = L2.length) := rfl
      clear hL2 C2 HL2
      obtain ⟨a1, a2, a3, a4, a5, a6, a7⟩ := a
      simp only at CA RI C1 b1 b2
      have y0 : wr.cell? ⟨b, o + k * 7, none⟩ = some (.int .i64 a1) := (hB.out.cell (p := ⟨b, _, none⟩) lb).trans (cc 0 _ rfl)
      have y1 : wr.cell? ⟨b, o + k * 7 + 1, none⟩ = some (.int .i64 a2) := (hB.out.cell (p := ⟨b, _, none⟩) lb).trans (cc 1 _ rfl)
      have y2 : wr.cell? ⟨b, o + k * 7 + 2, none⟩ = some (.int .i64 a3) := (hB.out.cell (p := ⟨b, _, none⟩) lb).trans (cc 2 _ rfl)
      have y3 : wr.cell? ⟨b, o + k * 7 + 3, none⟩ = some (.bool a4) := (hB.out.cell (p := ⟨b, _, none⟩) lb).trans (cc 3 _ rfl)
      have y4 : wr.cell? ⟨b, o + k * 7 + 4, none⟩ = some (.bool a5) := (hB.out.cell (p := ⟨b, _, none⟩) lb).trans (cc 4 _ rfl)
      have y5 : wr.cell? ⟨b, o + k * 7 + 5, none⟩ = some (.bool a6) := (hB.out.cell (p := ⟨b, _, none⟩) lb).trans (cc 5 _ rfl)
      have y6 : wr.cell? ⟨b, o + k * 7 + 6, none⟩ = some (.int .i64 a7) := (hB.out.cell (p := ⟨b, _, none⟩) lb).trans (cc 6 _ rfl)
      clear cc
      have lbw : b < wr.heap.size := Nat.lt_of_lt_of_le lb hB.out.size
      obtain ⟨x0, x1, lx⟩ := hP.out
      generalize hLn : L.length = nL at C0 C1 D1 ⊢
      have IA : Hid (IsL ((wr.alloc (.cells #[.int .i64 a1, .int .i64 a2, .int .i64 a3, .bool a4, .bool a5, .bool a6, .int .i64 a7] 57)).alloc (.cells #[.int .i64 a2, .int .i64 a3] 29)) 0 p L) := hI.out.below (Go.Joins.below_alloc2 _ _ _)
      go_wp2_with fail
      refine (C0.out _ IA.out).mono ?_
      rintro e u1 ⟨rfl, hb1⟩
      have lz : wr.heap.size + 1 < ((wr.alloc (.cells #[.int .i64 a1, .int .i64 a2, .int .i64 a3, .bool a4, .bool a5, .bool a6, .int .i64 a7] 57)).alloc (.cells #[.int .i64 a2, .int .i64 a3] 29)).heap.size := by rw [World.size_alloc, World.size_alloc]; omega
      have BW : Hid (Below wr.heap.size wr u1) := below_then (Go.Joins.below_alloc2 _ _ _) hb1
      have z0 : u1.cell? ⟨wr.heap.size, 0, none⟩ = some (.int .i64 a1) := (hb1.cell (p := ⟨wr.heap.size, 0, none⟩) (by exact Nat.lt_trans (Nat.lt_succ_self _) lz)).trans (by simp)
      have z1 : u1.cell? ⟨wr.heap.size, 1, none⟩ = some (.int .i64 a2) := (hb1.cell (p := ⟨wr.heap.size, 1, none⟩) (by exact Nat.lt_trans (Nat.lt_succ_self _) lz)).trans (by simp)
      have z2 : u1.cell? ⟨wr.heap.size, 2, none⟩ = some (.int .i64 a3) := (hb1.cell (p := ⟨wr.heap.size, 2, none⟩) (by exact Nat.lt_trans (Nat.lt_succ_self _) lz)).trans (by simp)
      have z3 : u1.cell? ⟨wr.heap.size, 3, none⟩ = some (.bool a4) := (hb1.cell (p := ⟨wr.heap.size, 3, none⟩) (by exact Nat.lt_trans (Nat.lt_succ_self _) lz)).trans (by simp)
      have z4 : u1.cell? ⟨wr.heap.size, 4, none⟩ = some (.bool a5) := (hb1.cell (p := ⟨wr.heap.size, 4, none⟩) (by exact Nat.lt_trans (Nat.lt_succ_self _) lz)).trans (by simp)
      have z5 : u1.cell? ⟨wr.heap.size, 5, none⟩ = some (.bool a6) := (hb1.cell (p := ⟨wr.heap.size, 5, none⟩) (by exact Nat.lt_trans (Nat.lt_succ_self _) lz)).trans (by simp)
      have z6 : u1.cell? ⟨wr.heap.size, 6, none⟩ = some (.int .i64 a7) := (hb1.cell (p := ⟨wr.heap.size, 6, none⟩) (by exact Nat.lt_trans (Nat.lt_succ_self _) lz)).trans (by simp)
      have r0 : u1.cell? ⟨wr.heap.size + 1, 0, none⟩ = some (.int .i64 a2) := (hb1.cell (p := ⟨wr.heap.size + 1, 0, none⟩) (by exact lz)).trans (by simp)
      have r1 : u1.cell? ⟨wr.heap.size + 1, 1, none⟩ = some (.int .i64 a3) := (hb1.cell (p := ⟨wr.heap.size + 1, 1, none⟩) (by exact lz)).trans (by simp)
      have v0 : u1.cell? ⟨w.heap.size, 0, none⟩ = some (.int .i64 0) := (BW.out.cell (p := ⟨w.heap.size, 0, none⟩) lx).trans x0
      have v1 : u1.cell? ⟨w.heap.size, 1, none⟩ = some (.int .i64 34359738368) := (BW.out.cell (p := ⟨w.heap.size, 1, none⟩) lx).trans x1
      have l1 : wr.heap.size + 1 < u1.heap.size := Nat.lt_of_lt_of_le lz hb1.size
      have lw1 : w.heap.size < u1.heap.size := Nat.lt_of_lt_of_le lx BW.out.size
      have B1 : Hid (Below w.heap.size w u1) := below_then hB.out BW.out
      have I1 : Hid (IsL u1 0 p L) := hI.out.below BW.out
      clear hb1 BW hI hB hP IA lz y0 y1 y2 y3 y4 y5 y6
      generalize wr.heap.size = s at z0 z1 z2 z3 z4 z5 z6 r0 r1 l1 ⊢
      by_cases hr : a2 < a3
      · have hrd : decide (a2 < a3) = true := by simp [hr]
        go_wp2_with fail
        refine (C1.out _ I1.out).mono ?_
        rintro e u2 ⟨rfl, hb2⟩
        have k0 : u2.cell? ⟨s, 0, none⟩ = some (.int .i64 a1) := (hb2.cell (p := ⟨s, 0, none⟩) (by exact (Nat.lt_trans (Nat.lt_succ_self _) l1))).trans z0
        have k1 : u2.cell? ⟨s, 1, none⟩ = some (.int .i64 a2) := (hb2.cell (p := ⟨s, 1, none⟩) (by exact (Nat.lt_trans (Nat.lt_succ_self _) l1))).trans z1
        have k2 : u2.cell? ⟨s, 2, none⟩ = some (.int .i64 a3) := (hb2.cell (p := ⟨s, 2, none⟩) (by exact (Nat.lt_trans (Nat.lt_succ_self _) l1))).trans z2
        have k3 : u2.cell? ⟨s, 3, none⟩ = some (.bool a4) := (hb2.cell (p := ⟨s, 3, none⟩) (by exact (Nat.lt_trans (Nat.lt_succ_self _) l1))).trans z3
        have k4 : u2.cell? ⟨s, 4, none⟩ = some (.bool a5) := (hb2.cell (p := ⟨s, 4, none⟩) (by exact (Nat.lt_trans (Nat.lt_succ_self _) l1))).trans z4
        have k5 : u2.cell? ⟨s, 5, none⟩ = some (.bool a6) := (hb2.cell (p := ⟨s, 5, none⟩) (by exact (Nat.lt_trans (Nat.lt_succ_self _) l1))).trans z5
        have k6 : u2.cell? ⟨s, 6, none⟩ = some (.int .i64 a7) := (hb2.cell (p := ⟨s, 6, none⟩) (by exact (Nat.lt_trans (Nat.lt_succ_self _) l1))).trans z6
        have m0 : u2.cell? ⟨s + 1, 0, none⟩ = some (.int .i64 a2) := (hb2.cell (p := ⟨s + 1, 0, none⟩) (by exact l1)).trans r0
        have m1 : u2.cell? ⟨s + 1, 1, none⟩ = some (.int .i64 a3) := (hb2.cell (p := ⟨s + 1, 1, none⟩) (by exact l1)).trans r1
        have t0 : u2.cell? ⟨w.heap.size, 0, none⟩ = some (.int .i64 0) := (hb2.cell (p := ⟨w.heap.size, 0, none⟩) lw1).trans v0
        have t1 : u2.cell? ⟨w.heap.size, 1, none⟩ = some (.int .i64 34359738368) := (hb2.cell (p := ⟨w.heap.size, 1, none⟩) lw1).trans v1
        have l2 : s + 1 < u2.heap.size := Nat.lt_of_lt_of_le l1 hb2.size
        have lw2 : w.heap.size < u2.heap.size := Nat.lt_of_lt_of_le lw1 hb2.size
        have B2 : Hid (Below w.heap.size w u2) := below_then B1.out hb2
        have I2 : Hid (IsL u2 0 p L) := I1.out.below hb2
        clear hb2 z0 z1 z2 z3 z4 z5 z6 r0 r1 v0 v1 l1 lw1
        have z0 := k0
        have z1 := k1
        have z2 := k2
        have z3 := k3
        have z4 := k4
        have z5 := k5
        have z6 := k6
        have r0 := m0
        have r1 := m1
        have v0 := t0
        have v1 := t1
        have l1 := l2
        have lw1 := lw2
        clear k0 k1 k2 k3 k4 k5 k6 m0 m1 t0 t1 l2 lw2
        go_wp2_with fail
        refine (D1.out _ I2.out).mono ?_
        rintro e u5 ⟨p5, c5, rfl, hc5, hi5, hb5⟩
        have k0 : u5.cell? ⟨s, 0, none⟩ = some (.int .i64 a1) := (hb5.cell (p := ⟨s, 0, none⟩) (by exact (Nat.lt_trans (Nat.lt_succ_self _) l1))).trans z0
        have k1 : u5.cell? ⟨s, 1, none⟩ = some (.int .i64 a2) := (hb5.cell (p := ⟨s, 1, none⟩) (by exact (Nat.lt_trans (Nat.lt_succ_self _) l1))).trans z1
        have k2 : u5.cell? ⟨s, 2, none⟩ = some (.int .i64 a3) := (hb5.cell (p := ⟨s, 2, none⟩) (by exact (Nat.lt_trans (Nat.lt_succ_self _) l1))).trans z2
        have k3 : u5.cell? ⟨s, 3, none⟩ = some (.bool a4) := (hb5.cell (p := ⟨s, 3, none⟩) (by exact (Nat.lt_trans (Nat.lt_succ_self _) l1))).trans z3
        have k4 : u5.cell? ⟨s, 4, none⟩ = some (.bool a5) := (hb5.cell (p := ⟨s, 4, none⟩) (by exact (Nat.lt_trans (Nat.lt_succ_self _) l1))).trans z4
        have k5 : u5.cell? ⟨s, 5, none⟩ = some (.bool a6) := (hb5.cell (p := ⟨s, 5, none⟩) (by exact (Nat.lt_trans (Nat.lt_succ_self _) l1))).trans z5
        have k6 : u5.cell? ⟨s, 6, none⟩ = some (.int .i64 a7) := (hb5.cell (p := ⟨s, 6, none⟩) (by exact (Nat.lt_trans (Nat.lt_succ_self _) l1))).trans z6
        have m0 : u5.cell? ⟨s + 1, 0, none⟩ = some (.int .i64 a2) := (hb5.cell (p := ⟨s + 1, 0, none⟩) (by exact l1)).trans r0
        have m1 : u5.cell? ⟨s + 1, 1, none⟩ = some (.int .i64 a3) := (hb5.cell (p := ⟨s + 1, 1, none⟩) (by exact l1)).trans r1
        have n0' : u5.cell? ⟨w.heap.size, 0, none⟩ = some (.int .i64 0) := (hb5.cell (p := ⟨w.heap.size, 0, none⟩) lw1).trans v0
        have n1' : u5.cell? ⟨w.heap.size, 1, none⟩ = some (.int .i64 34359738368) := (hb5.cell (p := ⟨w.heap.size, 1, none⟩) lw1).trans v1
        have l5 : s + 1 < u5.heap.size := Nat.lt_of_lt_of_le l1 hb5.size
        have lw5 : w.heap.size < u5.heap.size := Nat.lt_of_lt_of_le lw1 hb5.size
        have B5 : Hid (Below w.heap.size w u5) := below_then B2.out hb5
        have I5 : Hid (IsL u5 0 p5 L2) := hi5
        have Cc5 : Hid (L2.length ≤ c5) := hc5
        clear hb5 hi5 hc5 z0 z1 z2 z3 z4 z5 z6 r0 r1 v0 v1 l1 lw1
        have C4 : Hid _ := C3.out p5 c5
        obtain ⟨nL2, hn2⟩ : ∃ n, L2.length = n := ⟨_, rfl⟩
        rw [hn2] at C4 ⊢
        have HN2 : Hid (L2.length = nL2) := hn2
        clear hn2
        by_cases ez : E = 0
        · obtain ⟨f1, f2, f3⟩ := RI.out ez
          have eb : (E == 0) = true := by simp [ez]
          by_cases h1 : a1 = 1
          · have en : N2 = N + a3 - a2 := by rw [CA.out, if_pos ⟨ez, h1⟩]
            subst ez h1 en
            clear CA RI eb
            go_wp2_with fail
            refine (C4.out _ I5.out).mono ?_
            rintro e u6 ⟨rfl, hb6⟩
            have B6 : Hid (Below w.heap.size w u6) := below_then B5.out hb6
            have I6 : Hid (IsL u6 0 p5 L2) := I5.out.below hb6
            have P6 : Hid (u6.cell? ⟨w.heap.size, 0, none⟩ = some (.int .i64 0) ∧ u6.cell? ⟨w.heap.size, 1, none⟩ = some (.int .i64 34359738368) ∧ w.heap.size < u6.heap.size) := ⟨(hb6.cell (p := ⟨w.heap.size, 0, none⟩) lw5).trans n0', (hb6.cell (p := ⟨w.heap.size, 1, none⟩) lw5).trans n1', Nat.lt_of_lt_of_le lw5 hb6.size⟩
            clear hb6
            go_wp2_with fail
            go_roundw
            case rel => exact ⟨k + 1, L2, p5, c5, by omega, by omega, by rw [HN2.out], by go_num, GD, Cc5, I6, B6, P6⟩
            case measure => simp [intOf]; omega
          · have e1 : (a1 == 1) = false := by simp [h1]
            by_cases h2 : a1 = 2
            · have en : N2 = N - N1 := by rw [CA.out, if_neg (fun q => h1 q.2), if_pos ⟨ez, h2⟩]
              subst ez h2 en
              clear CA RI eb e1 h1
              go_wp2_with fail
              refine (C4.out _ I5.out).mono ?_
              rintro e u6 ⟨rfl, hb6⟩
              have B6 : Hid (Below w.heap.size w u6) := below_then B5.out hb6
              have I6 : Hid (IsL u6 0 p5 L2) := I5.out.below hb6
              have P6 : Hid (u6.cell? ⟨w.heap.size, 0, none⟩ = some (.int .i64 0) ∧ u6.cell? ⟨w.heap.size, 1, none⟩ = some (.int .i64 34359738368) ∧ w.heap.size < u6.heap.size) := ⟨(hb6.cell (p := ⟨w.heap.size, 0, none⟩) lw5).trans n0', (hb6.cell (p := ⟨w.heap.size, 1, none⟩) lw5).trans n1', Nat.lt_of_lt_of_le lw5 hb6.size⟩
              clear hb6
              go_wp2_with fail
              go_roundw
              case rel => exact ⟨k + 1, L2, p5, c5, by omega, by omega, by rw [HN2.out], by go_num, GD, Cc5, I6, B6, P6⟩
              case measure => simp [intOf]; omega
            · have e2 : (a1 == 2) = false := by simp [h2]
              have en : N2 = N := by rw [CA.out, if_neg (fun q => h1 q.2), if_neg (fun q => h2 q.2)]
              subst ez en
              clear CA RI eb h1 h2
              go_wp2_with fail
              refine (C4.out _ I5.out).mono ?_
              rintro e u6 ⟨rfl, hb6⟩
              have B6 : Hid (Below w.heap.size w u6) := below_then B5.out hb6
              have I6 : Hid (IsL u6 0 p5 L2) := I5.out.below hb6
              have P6 : Hid (u6.cell? ⟨w.heap.size, 0, none⟩ = some (.int .i64 0) ∧ u6.cell? ⟨w.heap.size, 1, none⟩ = some (.int .i64 34359738368) ∧ w.heap.size < u6.heap.size) := ⟨(hb6.cell (p := ⟨w.heap.size, 0, none⟩) lw5).trans n0', (hb6.cell (p := ⟨w.heap.size, 1, none⟩) lw5).trans n1', Nat.lt_of_lt_of_le lw5 hb6.size⟩
              clear hb6
              go_wp2_with fail
              go_roundw
              case rel => exact ⟨k + 1, L2, p5, c5, by omega, by omega, by rw [HN2.out], by go_num, GD, Cc5, I6, B6, P6⟩
              case measure => simp [intOf]; omega
        · have eb : (E == 0) = false := by simp [ez]
          have en : N2 = N := by rw [CA.out, if_neg (fun q => ez q.1), if_neg (fun q => ez q.1)]
          subst en
          clear CA RI ez
          go_wp2_with fail
          refine (C4.out _ I5.out).mono ?_
          rintro e u6 ⟨rfl, hb6⟩
          have B6 : Hid (Below w.heap.size w u6) := below_then B5.out hb6
          have I6 : Hid (IsL u6 0 p5 L2) := I5.out.below hb6
          have P6 : Hid (u6.cell? ⟨w.heap.size, 0, none⟩ = some (.int .i64 0) ∧ u6.cell? ⟨w.heap.size, 1, none⟩ = some (.int .i64 34359738368) ∧ w.heap.size < u6.heap.size) := ⟨(hb6.cell (p := ⟨w.heap.size, 0, none⟩) lw5).trans n0', (hb6.cell (p := ⟨w.heap.size, 1, none⟩) lw5).trans n1', Nat.lt_of_lt_of_le lw5 hb6.size⟩
          clear hb6
          go_wp2_with fail
          go_roundw
          case rel => exact ⟨k + 1, L2, p5, c5, by omega, by omega, by rw [HN2.out], by go_num, GD, Cc5, I6, B6, P6⟩
          case measure => simp [intOf]; omega
      · have hrd : decide (a2 < a3) = false := by simp [hr]
        have NR : Hid (¬ E = 0) := fun q => hr (RI.out q).2.1
        go_wp2_with fail
        refine (D1.out _ I1.out).mono ?_
        rintro e u5 ⟨p5, c5, rfl, hc5, hi5, hb5⟩
        have n0' : u5.cell? ⟨w.heap.size, 0, none⟩ = some (.int .i64 0) := (hb5.cell (p := ⟨w.heap.size, 0, none⟩) lw1).trans v0
        have n1' : u5.cell? ⟨w.heap.size, 1, none⟩ = some (.int .i64 34359738368) := (hb5.cell (p := ⟨w.heap.size, 1, none⟩) lw1).trans v1
        have lw5 : w.heap.size < u5.heap.size := Nat.lt_of_lt_of_le lw1 hb5.size
        have B5 : Hid (Below w.heap.size w u5) := below_then B1.out hb5
        have I5 : Hid (IsL u5 0 p5 L2) := hi5
        have Cc5 : Hid (L2.length ≤ c5) := hc5
        clear hb5 hi5 hc5 z0 z1 z2 z3 z4 z5 z6 r0 r1 v0 v1 l1 lw1
        have C4 : Hid _ := C3.out p5 c5
        obtain ⟨nL2, hn2⟩ : ∃ n, L2.length = n := ⟨_, rfl⟩
        rw [hn2] at C4 ⊢
        have HN2 : Hid (L2.length = nL2) := hn2
        clear hn2
        have ez := NR.out
        have eb : (E == 0) = false := by simp [ez]
        have en : N2 = N := by rw [CA.out, if_neg (fun q => ez q.1), if_neg (fun q => ez q.1)]
        subst en
        clear CA RI ez NR
        go_wp2_with fail
        refine (C4.out _ I5.out).mono ?_
        rintro e u6 ⟨rfl, hb6⟩
        have B6 : Hid (Below w.heap.size w u6) := below_then B5.out hb6
        have I6 : Hid (IsL u6 0 p5 L2) := I5.out.below hb6
        have P6 : Hid (u6.cell? ⟨w.heap.size, 0, none⟩ = some (.int .i64 0) ∧ u6.cell? ⟨w.heap.size, 1, none⟩ = some (.int .i64 34359738368) ∧ w.heap.size < u6.heap.size) := ⟨(hb6.cell (p := ⟨w.heap.size, 0, none⟩) lw5).trans n0', (hb6.cell (p := ⟨w.heap.size, 1, none⟩) lw5).trans n1', Nat.lt_of_lt_of_le lw5 hb6.size⟩
        clear hb6
        go_wp2_with fail
        go_roundw
        case rel => exact ⟨k + 1, L2, p5, c5, by omega, by omega, by rw [HN2.out], by go_num, GD, Cc5, I6, B6, P6⟩
        case measure => simp [intOf]; omega
    · clear hI hG hC hP DC CN HA
      generalize L.length = nL
      by_cases hq : k < n0
      · have hd : decide ((k : Int) < (n0 : Int)) = true := by simp; omega
        have hd2 : decide ((k : Int) < 30) = false := by simp; omega
        go_wp2_with fail
        refine (AWH.out _).mono ?_
        rintro e u1 ⟨rfl, hb1⟩
        have B1 : Hid (Below w.heap.size w u1) := below_then hB.out hb1
        clear hb1
        go_wp2_with fail
        go_ret
        exact ⟨rfl, B1.out⟩
      · have hd : decide ((k : Int) < (n0 : Int)) = false := by simp; omega
        go_wp2_with fail
        refine (AWH.out _).mono ?_
        rintro e u1 ⟨rfl, hb1⟩
        have B1 : Hid (Below w.heap.size w u1) := below_then hB.out hb1
        clear hb1
        go_wp2_with fail
        go_ret
        exact ⟨rfl, B1.out⟩

theorem own : ownKnob Try.prog.godebug = none := by kernel_rfl
theorem laidOut : laidOutB Try.prog = true := by kernel_rfl
set_option maxRecDepth 100000 in
theorem lifted (os : Os) (started : os.Started) (H : Type) (enc : TypeId × Value → H) :
    ReturnsInHanded {} Try.checked os 8 .any (Rows.regionCountsSpec.pre6 enc Try.prog Try.f8 Rows.regionCountsRow.domain false) (Rows.regionCountsSpec.post enc Try.prog Try.f8 false true false false) := by
  refine returnsInHanded_of_change (C := Try.checked) own started (by kernel_rfl) Try.func8
    (ChangeSpec.witness6 (enc := enc) (C := Try.checked) false ⟨#[], #[.slice none 0 0], []⟩ 8 (by kernel_rfl) (by kernel_rfl) (by kernel_rfl) (by kernel_rfl)) ?_
  intro W base args ds gs before hval0 hW hcnd _
  have hval : ∀ (j : Nat) t v, Try.f8.params[j]? = some t → args[j]? = some v → Value.okWide Try.prog W .any base t v := hval0
  have hW' := hW
  obtain ⟨p, q, hA0, hV, hbef, hfz, hnd⟩ := hW
  have hA : DataW.TrodAll enc Try.prog W 0 (fun _ => true) true Try.f8.params.toList args.toList ds p := hA0
  have hAk := hA
  have hlt : ∀ x ∈ p, x.block < W.heap.size := fun x hx => hW'.lt x (by rw [hbef]; exact List.mem_append_left _ hx)
  rw [Try.params8] at hA hval
  obtain ⟨v0, vs0, d0, ds0, p0, q0, hargs, rfl, hp0, h0, r0⟩ := trodAll_cons hA
  obtain ⟨rfl, rfl, hpz⟩ := trodAll_nil r0
  obtain rfl : args = #[v0] := by cases args; simp_all
  obtain ⟨rfl, rfl⟩ := trodVars_none hV
  obtain ⟨p0, n0, c0, A0, rfl, m0, H0⟩ := open_acts (hval 0 55 v0 rfl rfl) h0
  clear hA0 hval0
  refine (walk p0 n0 c0 A0 m0 W H0).mono fun e W' ⟨he, hg⟩ => ?_
  subst he
  exact ⟨_, rfl, ⟨_, _, _, [], p, [], hW', (trodAll_cons_mk (shut_bool Try.underlying4 _) trodAll_mk0), args_stay laidOut hg (by kernel_rfl) hAk hlt, rfl, hg.frame _, fun h => by cases h⟩⟩

theorem over : Rows.regionCountsRow.holds Try.pinned (OpenSpec.ofChange Rows.regionCountsSpec) :=
  OpenClaim.holds_of_wide 8 Try.f8 rfl rfl rfl rfl rfl rfl rfl ⟨rfl, rfl, rfl, rfl, rfl⟩ rfl rfl rfl rfl rfl (by kernel_rfl) Try.func8 (by kernel_rfl)
    (of_decide_eq_true (by kernel_rfl)) (by unfold Func.isWrapper; first | (rw [if_pos (by decide +kernel)]; kernel_rfl) | (rw [if_neg (by decide +kernel)]; exact ⟨rfl, rfl⟩))
    (fun os started H enc _ => lifted os started H enc)

theorem proved : Rows.RegionCountsSaid :=
  over
#print axioms proved
end Go.Proofs.Ytgebmmacgfinaaa.regionCounts
