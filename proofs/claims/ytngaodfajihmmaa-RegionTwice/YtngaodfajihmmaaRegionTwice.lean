/- For any changes and any two changes: behind any 30 changes, pages that are protected twice may be used as was said last, and protected as they are nothing changes; no condition. -/
import Derived.Test.YtngaodfajihmmaaRows
import Derived.ProofKit
import Derived.OpenShut
import Derived.Carry
import Derived.Test.YtngaodfajihmmaaG14
import Derived.Deep.QuietTactic
import Derived.BigQuiet
namespace Go.Proofs.Ytngaodfajihmmaa.regionTwice
open Go.ChangeShapes Go.WideShapes Go.ChangeAt Go.RowKit Go.Maps
set_option linter.unusedSimpArgs false
set_option linter.unusedVariables false
theorem IsL.sc {base b o : Nat} {X : World} {v : Value} {p : Option Addr} {B : List Rg} (h : IsL X base p B) (hb : b < base) : IsL (X.setCell ⟨b, o, none⟩ v) base p B := fun i hi => by
  obtain ⟨g, e, l1, l2, c⟩ := h i hi
  exact ⟨g, e, l1, by rw [World.size_setCell]; exact l2, fun j x hx => (World.cell?_of_block (w := X) (a := ⟨g, i * 6 + j, none⟩) (Below.heap_setCell _ _ _ _ (by show g ≠ b; omega))).trans (c j x hx)⟩
theorem IsL.drewn {base m : Nat} {X : World} {p : Option Addr} {B : List Rg} (h : IsL X base p B) : IsL (X.drewN m) base p B := h
theorem below_drewn {n m : Nat} {w X : World} (h : Below n w X) : Below n w (X.drewN m) := ⟨h.os, h.tape, h.output, h.size, h.block⟩
theorem out_not {E : Int} {M : List Rg} (h : errA E M ≠ 0) : outL E M = [] := by unfold outL; rw [if_neg h]
theorem err0 (M : List Rg) : errA 0 M = 0 ∨ errA 0 M = 4 := by
  unfold errA
  rw [if_pos rfl]
  by_cases c : M.length ≤ 64
  · left; rw [if_pos c]
  · right; rw [if_neg c]

set_option maxRecDepth 8000 in
set_option maxHeartbeats 16000000 in
theorem walk (p0 : Option Addr) (n0 c0 : Nat) (A0 : Nat → Ac) (m0 : n0 ≤ maxLen) (a1 : Ac) (w1f : -9223372036854775808 ≤ a1.fr ∧ a1.fr ≤ 9223372036854775807) (w1t : -9223372036854775808 ≤ a1.til ∧ a1.til ≤ 9223372036854775807) (a2 : Ac) (w2f : -9223372036854775808 ≤ a2.fr ∧ a2.fr ≤ 9223372036854775807) (w2t : -9223372036854775808 ≤ a2.til ∧ a2.til ≤ 9223372036854775807) (w : World) (H0 : IsActs w p0 n0 A0) :
    Calls Try.prog 8 #[.slice p0 n0 c0, a1.val, a2.val] w fun e w' => e = .returned (.bool true) ∧ Below w.heap.size w w' := by
  have AWH : Hid (∀ W : World, Calls Try.prog 16 #[] W fun e w' => e = .returned (.bool true) ∧ Below W.heap.size W w') := fun W => awake_any W
  have DC : Hid (∀ (L : List Rg), goodB L = true → ∀ (p : Option Addr) (c : Nat), L.length ≤ c → ∀ (a : Ac) (W : World), IsL W (w.heap.size + 2) p L → (w.heap.size + 2) ≤ W.heap.size → Calls Try.prog 25 #[.slice p L.length c, a.val] W fun e w' => ∃ p' c', e = .returned (.tuple #[.slice p' (actL L a).length c', .int .i64 (actE L a)]) ∧ (actL L a).length ≤ c' ∧ IsL w' (w.heap.size + 2) p' (actL L a) ∧ Below W.heap.size W w') := fun L g p c hc a W h hw => does_b (w.heap.size + 2) p c L (by have := (good_can g).2.2; omega) hc a W h hw
  have GC : Hid (∀ (L : List Rg), goodB L = true → ∀ (p : Option Addr) (c : Nat) (W : World), IsL W (w.heap.size + 2) p L → Calls Try.prog 21 #[.slice p L.length c] W fun e w' => e = .returned (.bool true) ∧ Below W.heap.size W w') := fun L g p c W h => by
    have := good_any (w.heap.size + 2) p c L (by have := (good_can g).2.2; omega) W h
    rw [g] at this; exact this
  have HA : Hid (IsActs w p0 n0 A0) := H0
  clear H0
  have mm : (n0 : Int) ≤ 9223372036854775807 := by have : maxLen ≤ 9223372036854775807 := by decide +kernel
                                                   omega
  clear GC
  obtain ⟨k1, k2, k3, k4, k5, k6, k7⟩ := a1
  obtain ⟨j1, j2, j3, j4, j5, j6, j7⟩ := a2
  go_enter Try.func8, Try.ntmps8
  go_wp2_with fail
  go_loopw [7, 8] (fun l x W => ∃ (k : Nat) (L : List Rg) (p : Option Addr) (c : Nat), k ≤ n0 ∧ k ≤ 30 ∧ l = .slice p L.length c ∧ x = .int .i64 k ∧ Hid (goodB L = true) ∧ Hid (L.length ≤ c) ∧ Hid (IsL W (w.heap.size + 2) p L) ∧ Hid (Below w.heap.size w W) ∧ Hid (W.heap[w.heap.size]? = some (.cells #[.int .i64 k1, .int .i64 k2, .int .i64 k3, .bool k4, .bool k5, .bool k6, .int .i64 k7] 57 (0, 0))) ∧ Hid (W.heap[w.heap.size + 1]? = some (.cells #[.int .i64 j1, .int .i64 j2, .int .i64 j3, .bool j4, .bool j5, .bool j6, .int .i64 j7] 57 (0, 0)))) (fun _ x _ => 30 - (intOf x).toNat)
  case atStart => exact ⟨0, [], none, 0, by omega, by omega, rfl, rfl, rfl, Nat.le_refl _, nil_isb _ _, Go.Joins.below_alloc2 _ _ _, ((Go.Joins.below_alloc1 _ _).block _ (by rw [World.size_alloc]; omega)).trans (own1 w _), (by have := own1 (w.alloc (.cells #[.int .i64 k1, .int .i64 k2, .int .i64 k3, .bool k4, .bool k5, .bool k6, .int .i64 k7] 57)) (.cells #[.int .i64 j1, .int .i64 j2, .int .i64 j3, .bool j4, .bool j5, .bool j6, .int .i64 j7] 57); rw [World.size_alloc] at this; exact this)⟩
  case round =>
    obtain ⟨k, L, p, c, hk, hk3, rfl, rfl, hG, hC, hI, hB, Xa, Xb⟩ := hrel
    have lw : w.heap.size < wr.heap.size := blk_lt Xa.out
    have lbb : (w.heap.size + 2) ≤ wr.heap.size := by have := blk_lt Xb.out; omega
    by_cases hlt : k < n0 ∧ k < 30
    · have hd : decide ((k : Int) < (n0 : Int)) = true := by simp; omega
      have hd2 : decide ((k : Int) < 30) = true := by simp; omega
      obtain ⟨b, o, rfl, lb, cc, _, _⟩ := HA.out k hlt.1
      generalize A0 k = a at cc
      have GD : Hid (goodB (actL L a) = true) := act_good hG.out a
      have D1 : Hid _ := DC.out L hG.out p c hC.out a
      generalize actE L a = E at D1
      generalize actL L a = L2 at GD D1
      obtain ⟨h1, h2, h3, h4, h5, h6, h7⟩ := a
      have y0 : wr.cell? ⟨b, o + k * 7, none⟩ = some (.int .i64 h1) := (hB.out.cell (p := ⟨b, _, none⟩) lb).trans (cc 0 _ rfl)
      have y1 : wr.cell? ⟨b, o + k * 7 + 1, none⟩ = some (.int .i64 h2) := (hB.out.cell (p := ⟨b, _, none⟩) lb).trans (cc 1 _ rfl)
      have y2 : wr.cell? ⟨b, o + k * 7 + 2, none⟩ = some (.int .i64 h3) := (hB.out.cell (p := ⟨b, _, none⟩) lb).trans (cc 2 _ rfl)
      have y3 : wr.cell? ⟨b, o + k * 7 + 3, none⟩ = some (.bool h4) := (hB.out.cell (p := ⟨b, _, none⟩) lb).trans (cc 3 _ rfl)
      have y4 : wr.cell? ⟨b, o + k * 7 + 4, none⟩ = some (.bool h5) := (hB.out.cell (p := ⟨b, _, none⟩) lb).trans (cc 4 _ rfl)
      have y5 : wr.cell? ⟨b, o + k * 7 + 5, none⟩ = some (.bool h6) := (hB.out.cell (p := ⟨b, _, none⟩) lb).trans (cc 5 _ rfl)
      have y6 : wr.cell? ⟨b, o + k * 7 + 6, none⟩ = some (.int .i64 h7) := (hB.out.cell (p := ⟨b, _, none⟩) lb).trans (cc 6 _ rfl)
      clear cc
      have lbw : b < wr.heap.size := Nat.lt_of_lt_of_le lb hB.out.size
      generalize hLn : L.length = nL at D1 ⊢
      go_wp2_with fail
      refine (D1.out _ hI.out lbb).mono ?_
      rintro e u1 ⟨p1, c1, rfl, hc1, hi1, hb1⟩
      have B1 : Hid (Below w.heap.size w u1) := below_then hB.out hb1
      have I1 : Hid (IsL u1 (w.heap.size + 2) p1 L2) := hi1
      have Cc : Hid (L2.length ≤ c1) := hc1
      have Ya : Hid (u1.heap[w.heap.size]? = some (.cells #[.int .i64 k1, .int .i64 k2, .int .i64 k3, .bool k4, .bool k5, .bool k6, .int .i64 k7] 57 (0, 0))) := (hb1.block _ (blk_lt Xa.out)).trans Xa.out
      have Yb : Hid (u1.heap[w.heap.size + 1]? = some (.cells #[.int .i64 j1, .int .i64 j2, .int .i64 j3, .bool j4, .bool j5, .bool j6, .int .i64 j7] 57 (0, 0))) := (hb1.block _ (blk_lt Xb.out)).trans Xb.out
      clear hb1 hi1 hc1
      obtain ⟨nL2, hn2⟩ : ∃ n, L2.length = n := ⟨_, rfl⟩
      rw [hn2]
      have HN2 : Hid (L2.length = nL2) := hn2
      clear hn2
      go_wp2_with fail
      go_roundw
      case rel => exact ⟨k + 1, L2, p1, c1, by omega, by omega, by rw [HN2.out], by go_num, GD, Cc, I1, B1, Ya, Yb⟩
      case measure => simp [intOf]; omega
    · clear HA DC
      have LG : L.length ≤ 64 := (good_can hG.out).2.2
      obtain ⟨E1, hE1⟩ : ∃ E, errA (protN L k2 k3) (chg (fun r => r.may k4 k5 k6) k2 k3 L) = E := ⟨_, rfl⟩
      obtain ⟨X, hX⟩ : ∃ X, outL (protN L k2 k3) (chg (fun r => r.may k4 k5 k6) k2 k3 L) = X := ⟨_, rfl⟩
      have d1 : Hid (∀ (p : Option Addr) (c : Nat) (W : World), IsL W (w.heap.size + 2) p L → (w.heap.size + 2) ≤ W.heap.size → Calls Try.prog 14 #[.slice p (L).length c, .agg #[.int .i64 k2, .int .i64 k3], .agg #[.bool k4, .bool k5, .bool k6]] W fun e w' => ∃ p' c', e = .returned (.tuple #[.slice p' (X).length c', .int .i64 E1]) ∧ (X).length ≤ c' ∧ IsL w' (w.heap.size + 2) p' X ∧ Below W.heap.size W w') := fun p c W h hw => prot_outb (w.heap.size + 2) p c L (by omega) k2 k3 k4 k5 k6 _ _ hE1 hX W h hw
      have RI : Hid (IsL (wr.alloc (.cells #[.int .i64 k2, .int .i64 k3] 29)) (w.heap.size + 2) p L) := hI.out.below (Go.Joins.below_alloc1 _ _)
      have RBl : Hid (Below w.heap.size w (wr.alloc (.cells #[.int .i64 k2, .int .i64 k3] 29))) := below_new hB.out _
      have RS : Hid ((w.heap.size + 2) ≤ (wr.alloc (.cells #[.int .i64 k2, .int .i64 k3] 29)).heap.size) := by show _ ≤ _; rw [World.size_alloc]; omega
      have RA : Hid ((wr.alloc (.cells #[.int .i64 k2, .int .i64 k3] 29)).heap[w.heap.size]? = some (.cells #[.int .i64 k1, .int .i64 k2, .int .i64 k3, .bool k4, .bool k5, .bool k6, .int .i64 k7] 57 (0, 0))) := ((Go.Joins.below_alloc1 _ _).block _ (blk_lt Xa.out)).trans Xa.out
      have RV : Hid ((wr.alloc (.cells #[.int .i64 k2, .int .i64 k3] 29)).heap[w.heap.size + 1]? = some (.cells #[.int .i64 j1, .int .i64 j2, .int .i64 j3, .bool j4, .bool j5, .bool j6, .int .i64 j7] 57 (0, 0))) := ((Go.Joins.below_alloc1 _ _).block _ (blk_lt Xb.out)).trans Xb.out
      have RR : Hid ((wr.alloc (.cells #[.int .i64 k2, .int .i64 k3] 29)).heap[wr.heap.size]? = some (.cells #[.int .i64 k2, .int .i64 k3] 29 (0, 0))) := own1 wr _
      have ca0 : wr.cell? ⟨w.heap.size, 0, none⟩ = some (.int .i64 k1) := Go.Joins.cell_of_block Xa.out 0
      have ca1 : wr.cell? ⟨w.heap.size, 1, none⟩ = some (.int .i64 k2) := Go.Joins.cell_of_block Xa.out 1
      have ca2 : wr.cell? ⟨w.heap.size, 2, none⟩ = some (.int .i64 k3) := Go.Joins.cell_of_block Xa.out 2
      have ca3 : wr.cell? ⟨w.heap.size, 3, none⟩ = some (.bool k4) := Go.Joins.cell_of_block Xa.out 3
      have ca4 : wr.cell? ⟨w.heap.size, 4, none⟩ = some (.bool k5) := Go.Joins.cell_of_block Xa.out 4
      have ca5 : wr.cell? ⟨w.heap.size, 5, none⟩ = some (.bool k6) := Go.Joins.cell_of_block Xa.out 5
      have ca6 : wr.cell? ⟨w.heap.size, 6, none⟩ = some (.int .i64 k7) := Go.Joins.cell_of_block Xa.out 6
      have X0 : Hid (E1 ≠ 0 → X.length = 0) := fun q => by rw [← hX, out_not (by rw [hE1]; exact q)]; rfl
      have MD : Hid (E1 = 0 → ∃ (E2 : Int) (Z : List Rg), (E2 = 0 ∨ E2 = 4) ∧ X.length ≤ 64 ∧ Z.length ≤ 64 ∧ errA (protN X k2 k3) (chg (fun r => r.may j4 j5 j6) k2 k3 X) = E2 ∧ outL (protN X k2 k3) (chg (fun r => r.may j4 j5 j6) k2 k3 X) = Z ∧ errA (protN L k2 k3) (chg (fun r => r.may j4 j5 j6) k2 k3 L) = E2 ∧ outL (protN L k2 k3) (chg (fun r => r.may j4 j5 j6) k2 k3 L) = Z ∧ (E2 = 0 → errA (protN Z k2 k3) (chg (fun r => r.may j4 j5 j6) k2 k3 Z) = 0 ∧ outL (protN Z k2 k3) (chg (fun r => r.may j4 j5 j6) k2 k3 Z) = Z)) := fun q => by
        rw [q] at hE1
        obtain ⟨p0, l0, o0⟩ := errA_zero hE1
        rw [o0] at hX
        obtain ⟨t1, t2⟩ := twice p0 k4 k5 k6 j4 j5 j6 l0
        subst hX
        refine ⟨errA 0 (chg (fun r => r.may j4 j5 j6) k2 k3 L), outL 0 (chg (fun r => r.may j4 j5 j6) k2 k3 L), err0 _, l0, ?_, by rw [t1, t2], by rw [t1, t2], by rw [p0], by rw [p0], fun z => ?_⟩
        · unfold outL
          by_cases z : errA 0 (chg (fun r => r.may j4 j5 j6) k2 k3 L) = 0
          · rw [if_pos z]; exact (errA_zero z).2.1
          · rw [if_neg z]; simp
        · obtain ⟨_, l1, o1⟩ := errA_zero z
          obtain ⟨s1, s2⟩ := twice p0 j4 j5 j6 j4 j5 j6 l1
          rw [o1, s1, s2]
          exact ⟨z, o1⟩
      clear hE1 hX
      obtain ⟨nL, hnL⟩ : ∃ n, L.length = n := ⟨_, rfl⟩
      have HNL : Hid (L.length = nL) := hnL
      rw [hnL]
      have HD1 : Hid _ := d1.out p c
      clear hnL d1 hI
      by_cases hq : k < n0
      · have hd : decide ((k : Int) < (n0 : Int)) = true := by simp; omega
        have hd2 : decide ((k : Int) < 30) = false := by simp; omega
        clear hlt
        go_wp2_with fail
        generalize (wr.alloc (.cells #[.int .i64 k2, .int .i64 k3] 29)) = u0 at RI RBl RS RA RV RR ⊢
        generalize wr.heap.size = q at RR ⊢
        clear ca0 ca1 ca2 ca3 ca4 ca5 ca6 Xa Xb
        rw [HNL.out] at HD1
        refine (HD1.out _ RI.out RS.out).mono ?_
        rintro e u1 ⟨p1, c1, rfl, hc1, hi1, hb1⟩
        have V1 : Hid (u1.heap[w.heap.size + 1]? = some (.cells #[.int .i64 j1, .int .i64 j2, .int .i64 j3, .bool j4, .bool j5, .bool j6, .int .i64 j7] 57 (0, 0))) := (hb1.block _ (blk_lt RV.out)).trans RV.out
        have Q1 : Hid (u1.heap[q]? = some (.cells #[.int .i64 k2, .int .i64 k3] 29 (0, 0))) := (hb1.block _ (blk_lt RR.out)).trans RR.out
        have B1 : Hid (Below w.heap.size w u1) := below_then RBl.out hb1
        have J1 : Hid (IsL u1 (w.heap.size + 2) p L) := RI.out.below hb1
        have I1 : Hid (IsL u1 (w.heap.size + 2) p1 X) := hi1
        have S1 : Hid ((w.heap.size + 2) ≤ u1.heap.size) := Nat.le_trans RS.out hb1.size
        clear hc1 hi1 hb1 RA RV RR RI RBl RS HD1
        by_cases z1 : E1 = 0
        rotate_left
        · have zb : (E1 != 0) = true := by simp [z1]
          have x0 := X0.out z1
          rw [x0]
          clear z1 MD X0 x0
          go_wp2_with fail
          refine (AWH.out _).mono ?_
          rintro e u9 ⟨rfl, hb9⟩
          have B9 : Hid (Below w.heap.size w u9) := below_then B1.out hb9
          clear hb9
          go_wp2_with fail
          go_ret
          exact ⟨rfl, B9.out⟩
        have zb : (E1 != 0) = false := by simp [z1]
        obtain ⟨E2, Z, ee, lX, lZ, q1, q2, q3, q4, q5⟩ := MD.out z1
        have d2 : Hid (∀ (p : Option Addr) (c : Nat) (W : World), IsL W (w.heap.size + 2) p X → (w.heap.size + 2) ≤ W.heap.size → Calls Try.prog 14 #[.slice p (X).length c, .agg #[.int .i64 k2, .int .i64 k3], .agg #[.bool j4, .bool j5, .bool j6]] W fun e w' => ∃ p' c', e = .returned (.tuple #[.slice p' (Z).length c', .int .i64 E2]) ∧ (Z).length ≤ c' ∧ IsL w' (w.heap.size + 2) p' Z ∧ Below W.heap.size W w') := fun p c W h hw => prot_outb (w.heap.size + 2) p c X (by omega) k2 k3 j4 j5 j6 _ _ q1 q2 W h hw
        have d3 : Hid (∀ (p : Option Addr) (c : Nat) (W : World), IsL W (w.heap.size + 2) p L → (w.heap.size + 2) ≤ W.heap.size → Calls Try.prog 14 #[.slice p (L).length c, .agg #[.int .i64 k2, .int .i64 k3], .agg #[.bool j4, .bool j5, .bool j6]] W fun e w' => ∃ p' c', e = .returned (.tuple #[.slice p' (Z).length c', .int .i64 E2]) ∧ (Z).length ≤ c' ∧ IsL w' (w.heap.size + 2) p' Z ∧ Below W.heap.size W w') := fun p c W h hw => prot_outb (w.heap.size + 2) p c L (by omega) k2 k3 j4 j5 j6 _ _ q3 q4 W h hw
        obtain ⟨E4, hE4⟩ : ∃ E, errA (protN Z k2 k3) (chg (fun r => r.may j4 j5 j6) k2 k3 Z) = E := ⟨_, rfl⟩
        obtain ⟨Y, hY⟩ : ∃ Y, outL (protN Z k2 k3) (chg (fun r => r.may j4 j5 j6) k2 k3 Z) = Y := ⟨_, rfl⟩
        have d4 : Hid (∀ (p : Option Addr) (c : Nat) (W : World), IsL W (w.heap.size + 2) p Z → (w.heap.size + 2) ≤ W.heap.size → Calls Try.prog 14 #[.slice p (Z).length c, .agg #[.int .i64 k2, .int .i64 k3], .agg #[.bool j4, .bool j5, .bool j6]] W fun e w' => ∃ p' c', e = .returned (.tuple #[.slice p' (Y).length c', .int .i64 E4]) ∧ (Y).length ≤ c' ∧ IsL w' (w.heap.size + 2) p' Y ∧ Below W.heap.size W w') := fun p c W h hw => prot_outb (w.heap.size + 2) p c Z (by omega) k2 k3 j4 j5 j6 _ _ hE4 hY W h hw
        have F4 : Hid (E2 = 0 → E4 = 0 ∧ Y = Z) := fun z => ⟨hE4.symm.trans (q5 z).1, hY.symm.trans (q5 z).2⟩
        have EE : Hid (E2 = 0 ∨ E2 = 4) := ee
        have z1' : Hid (E1 = 0) := z1
        clear q1 q2 q3 q4 q5 hE4 hY MD X0 ee z1
        have d2' : Hid _ := d2.out p1 c1
        have d3' : Hid _ := d3.out p c
        obtain ⟨nX, hnX⟩ : ∃ n, X.length = n := ⟨_, rfl⟩
        rw [hnX] at d2' lX ⊢
        rw [HNL.out] at d3'
        clear hnX d2 d3
        have cb0 : u1.cell? ⟨w.heap.size + 1, 0, none⟩ = some (.int .i64 j1) := Go.Joins.cell_of_block V1.out 0
        have cb1 : u1.cell? ⟨w.heap.size + 1, 1, none⟩ = some (.int .i64 j2) := Go.Joins.cell_of_block V1.out 1
        have cb2 : u1.cell? ⟨w.heap.size + 1, 2, none⟩ = some (.int .i64 j3) := Go.Joins.cell_of_block V1.out 2
        have cb3 : u1.cell? ⟨w.heap.size + 1, 3, none⟩ = some (.bool j4) := Go.Joins.cell_of_block V1.out 3
        have cb4 : u1.cell? ⟨w.heap.size + 1, 4, none⟩ = some (.bool j5) := Go.Joins.cell_of_block V1.out 4
        have cb5 : u1.cell? ⟨w.heap.size + 1, 5, none⟩ = some (.bool j6) := Go.Joins.cell_of_block V1.out 5
        have cb6 : u1.cell? ⟨w.heap.size + 1, 6, none⟩ = some (.int .i64 j7) := Go.Joins.cell_of_block V1.out 6
        have cq0 : u1.cell? ⟨q, 0, none⟩ = some (.int .i64 k2) := Go.Joins.cell_of_block Q1.out 0
        have cq1 : u1.cell? ⟨q, 1, none⟩ = some (.int .i64 k3) := Go.Joins.cell_of_block Q1.out 1
        have l1 : w.heap.size + 1 < u1.heap.size := blk_lt V1.out
        have lq1 : q < u1.heap.size := blk_lt Q1.out
        go_wp2_with fail
        refine (d2'.out _ I1.out S1.out).mono ?_
        rintro e u2 ⟨p2, c2, rfl, hc2, hi2, hb2⟩
        have V2 : Hid (u2.heap[w.heap.size + 1]? = some (.cells #[.int .i64 j1, .int .i64 j2, .int .i64 j3, .bool j4, .bool j5, .bool j6, .int .i64 j7] 57 (0, 0))) := (hb2.block _ (blk_lt V1.out)).trans V1.out
        have Q2 : Hid (u2.heap[q]? = some (.cells #[.int .i64 k2, .int .i64 k3] 29 (0, 0))) := (hb2.block _ (blk_lt Q1.out)).trans Q1.out
        have B2 : Hid (Below w.heap.size w u2) := below_then B1.out hb2
        have J2 : Hid (IsL u2 (w.heap.size + 2) p L) := J1.out.below hb2
        have I2 : Hid (IsL u2 (w.heap.size + 2) p2 Z) := hi2
        have S2 : Hid ((w.heap.size + 2) ≤ u2.heap.size) := Nat.le_trans S1.out hb2.size
        obtain ⟨nZ, hnZ⟩ : ∃ n, Z.length = n := ⟨_, rfl⟩
        have HNZ : Hid (Z.length = nZ) := hnZ
        rw [hnZ] at d3' lZ ⊢
        clear hc2 hi2 hb2 V1 Q1 B1 J1 I1 S1 d2' hnZ l1 lq1 cb0 cb1 cb2 cb3 cb4 cb5 cb6 cq0 cq1
        have cb0 : u2.cell? ⟨w.heap.size + 1, 0, none⟩ = some (.int .i64 j1) := Go.Joins.cell_of_block V2.out 0
        have cb1 : u2.cell? ⟨w.heap.size + 1, 1, none⟩ = some (.int .i64 j2) := Go.Joins.cell_of_block V2.out 1
        have cb2 : u2.cell? ⟨w.heap.size + 1, 2, none⟩ = some (.int .i64 j3) := Go.Joins.cell_of_block V2.out 2
        have cb3 : u2.cell? ⟨w.heap.size + 1, 3, none⟩ = some (.bool j4) := Go.Joins.cell_of_block V2.out 3
        have cb4 : u2.cell? ⟨w.heap.size + 1, 4, none⟩ = some (.bool j5) := Go.Joins.cell_of_block V2.out 4
        have cb5 : u2.cell? ⟨w.heap.size + 1, 5, none⟩ = some (.bool j6) := Go.Joins.cell_of_block V2.out 5
        have cb6 : u2.cell? ⟨w.heap.size + 1, 6, none⟩ = some (.int .i64 j7) := Go.Joins.cell_of_block V2.out 6
        have cq0 : u2.cell? ⟨q, 0, none⟩ = some (.int .i64 k2) := Go.Joins.cell_of_block Q2.out 0
        have cq1 : u2.cell? ⟨q, 1, none⟩ = some (.int .i64 k3) := Go.Joins.cell_of_block Q2.out 1
        have l2 : w.heap.size + 1 < u2.heap.size := blk_lt V2.out
        have lq2 : q < u2.heap.size := blk_lt Q2.out
        go_wp2_with fail
        refine (d3'.out _ J2.out S2.out).mono ?_
        rintro e u3 ⟨p3, c3, rfl, hc3, hi3, hb3⟩
        have V3 : Hid (u3.heap[w.heap.size + 1]? = some (.cells #[.int .i64 j1, .int .i64 j2, .int .i64 j3, .bool j4, .bool j5, .bool j6, .int .i64 j7] 57 (0, 0))) := (hb3.block _ (blk_lt V2.out)).trans V2.out
        have Q3 : Hid (u3.heap[q]? = some (.cells #[.int .i64 k2, .int .i64 k3] 29 (0, 0))) := (hb3.block _ (blk_lt Q2.out)).trans Q2.out
        have B3 : Hid (Below w.heap.size w u3) := below_then B2.out hb3
        have I3 : Hid (IsL u3 (w.heap.size + 2) p2 Z) := I2.out.below hb3
        have J3 : Hid (IsL u3 (w.heap.size + 2) p3 Z) := hi3
        have S3 : Hid ((w.heap.size + 2) ≤ u3.heap.size) := Nat.le_trans S2.out hb3.size
        have d4' : Hid _ := d4.out p3 c3
        rw [HNZ.out] at d4'
        clear hc3 hi3 hb3 V2 Q2 B2 J2 I2 S2 d3' l2 lq2 cb0 cb1 cb2 cb3 cb4 cb5 cb6 cq0 cq1
        have cb0 : u3.cell? ⟨w.heap.size + 1, 0, none⟩ = some (.int .i64 j1) := Go.Joins.cell_of_block V3.out 0
        have cb1 : u3.cell? ⟨w.heap.size + 1, 1, none⟩ = some (.int .i64 j2) := Go.Joins.cell_of_block V3.out 1
        have cb2 : u3.cell? ⟨w.heap.size + 1, 2, none⟩ = some (.int .i64 j3) := Go.Joins.cell_of_block V3.out 2
        have cb3 : u3.cell? ⟨w.heap.size + 1, 3, none⟩ = some (.bool j4) := Go.Joins.cell_of_block V3.out 3
        have cb4 : u3.cell? ⟨w.heap.size + 1, 4, none⟩ = some (.bool j5) := Go.Joins.cell_of_block V3.out 4
        have cb5 : u3.cell? ⟨w.heap.size + 1, 5, none⟩ = some (.bool j6) := Go.Joins.cell_of_block V3.out 5
        have cb6 : u3.cell? ⟨w.heap.size + 1, 6, none⟩ = some (.int .i64 j7) := Go.Joins.cell_of_block V3.out 6
        have cq0 : u3.cell? ⟨q, 0, none⟩ = some (.int .i64 k2) := Go.Joins.cell_of_block Q3.out 0
        have cq1 : u3.cell? ⟨q, 1, none⟩ = some (.int .i64 k3) := Go.Joins.cell_of_block Q3.out 1
        have l3 : w.heap.size + 1 < u3.heap.size := blk_lt V3.out
        have lq3 : q < u3.heap.size := blk_lt Q3.out
        go_wp2_with fail
        refine (d4'.out _ J3.out S3.out).mono ?_
        rintro e u4 ⟨p4, c4, rfl, hc4, hi4, hb4⟩
        have B4 : Hid (Below w.heap.size w u4) := below_then B3.out hb4
        have I4 : Hid (IsL u4 (w.heap.size + 2) p2 Z) := I3.out.below hb4
        have J4 : Hid (IsL u4 (w.heap.size + 2) p3 Z) := J3.out.below hb4
        have K4 : Hid (IsL u4 (w.heap.size + 2) p4 Y) := hi4
        clear hc4 hi4 hb4 V3 Q3 B3 J3 I3 S3 d4' d4 l3 lq3 cb0 cb1 cb2 cb3 cb4 cb5 cb6 cq0 cq1
        by_cases z2 : E2 = 0
        rotate_left
        · have e4 : E2 = 4 := by have := EE.out; omega
          subst e4
          clear F4 EE z2
          generalize Y.length = nY
          go_wp2_with fail
          refine (AWH.out _).mono ?_
          rintro e u9 ⟨rfl, hb9⟩
          have B9 : Hid (Below w.heap.size w u9) := below_then B4.out hb9
          clear hb9
          go_wp2_with fail
          go_ret
          exact ⟨rfl, B9.out⟩
        obtain ⟨f1, f2⟩ := F4.out z2
        subst f1 z2
        rw [f2] at K4 ⊢
        rw [HNZ.out]
        clear F4 EE f2
        go_wp2_with fail
        go_loopw [122] (fun x W => ∃ m : Nat, m ≤ nZ ∧ x = .int .i64 m ∧ Hid (IsL W (w.heap.size + 2) p2 Z) ∧ Hid (IsL W (w.heap.size + 2) p3 Z) ∧ Hid (IsL W (w.heap.size + 2) p4 Z) ∧ Hid (Below w.heap.size w W)) (fun x _ => nZ - (intOf x).toNat)
        case atStart => exact ⟨0, by omega, rfl, I4, J4, K4, B4⟩
        case round =>
          obtain ⟨m, hm, rfl, hI5, hJ5, hK5, hB5⟩ := hrel
          by_cases hlm : m < nZ
          · have hd : decide ((m : Int) < (nZ : Int)) = true := by simp; omega
            have m0 : (0 : Int) ≤ (m : Int) := by omega
            have m1 : (m : Int) < (nZ : Int) := by omega
            obtain ⟨g, rfl, _, g2, gc⟩ := hI5.out m (by rw [HNZ.out]; exact hlm)
            obtain ⟨g', rfl, _, g2', gc'⟩ := hJ5.out m (by rw [HNZ.out]; exact hlm)
            obtain ⟨g'', rfl, _, g2'', gc''⟩ := hK5.out m (by rw [HNZ.out]; exact hlm)
            generalize Z.getD m Rg.zero = rr at gc gc' gc''
            obtain ⟨r1, r2, r3, r4, r5, r6⟩ := rr
            have y0 : wr.cell? ⟨g, m * 6, none⟩ = some (.int .i64 r1) := gc 0 _ rfl
            have y1 : wr.cell? ⟨g, m * 6 + 1, none⟩ = some (.int .i64 r2) := gc 1 _ rfl
            have y2 : wr.cell? ⟨g, m * 6 + 2, none⟩ = some (.bool r3) := gc 2 _ rfl
            have y3 : wr.cell? ⟨g, m * 6 + 3, none⟩ = some (.bool r4) := gc 3 _ rfl
            have y4 : wr.cell? ⟨g, m * 6 + 4, none⟩ = some (.bool r5) := gc 4 _ rfl
            have y5 : wr.cell? ⟨g, m * 6 + 5, none⟩ = some (.int .i64 r6) := gc 5 _ rfl
            have z0 : wr.cell? ⟨g', m * 6, none⟩ = some (.int .i64 r1) := gc' 0 _ rfl
            have z1 : wr.cell? ⟨g', m * 6 + 1, none⟩ = some (.int .i64 r2) := gc' 1 _ rfl
            have z2 : wr.cell? ⟨g', m * 6 + 2, none⟩ = some (.bool r3) := gc' 2 _ rfl
            have z3 : wr.cell? ⟨g', m * 6 + 3, none⟩ = some (.bool r4) := gc' 3 _ rfl
            have z4 : wr.cell? ⟨g', m * 6 + 4, none⟩ = some (.bool r5) := gc' 4 _ rfl
            have z5 : wr.cell? ⟨g', m * 6 + 5, none⟩ = some (.int .i64 r6) := gc' 5 _ rfl
            have x0 : wr.cell? ⟨g'', m * 6, none⟩ = some (.int .i64 r1) := gc'' 0 _ rfl
            have x1 : wr.cell? ⟨g'', m * 6 + 1, none⟩ = some (.int .i64 r2) := gc'' 1 _ rfl
            have x2 : wr.cell? ⟨g'', m * 6 + 2, none⟩ = some (.bool r3) := gc'' 2 _ rfl
            have x3 : wr.cell? ⟨g'', m * 6 + 3, none⟩ = some (.bool r4) := gc'' 3 _ rfl
            have x4 : wr.cell? ⟨g'', m * 6 + 4, none⟩ = some (.bool r5) := gc'' 4 _ rfl
            have x5 : wr.cell? ⟨g'', m * 6 + 5, none⟩ = some (.int .i64 r6) := gc'' 5 _ rfl
            clear gc gc' gc''
            go_wp2_with fail
            go_quiet (fail)
            go_wp2_with fail
            go_roundw
            case rel => exact ⟨m + 1, by omega, by go_num, IsL.drewn hI5.out, IsL.drewn hJ5.out, IsL.drewn hK5.out, below_drewn hB5.out⟩
            case measure => simp [intOf]; omega
          · have hd : decide ((m : Int) < (nZ : Int)) = false := by simp; omega
            go_wp2_with fail
            refine (AWH.out _).mono ?_
            rintro e u9 ⟨rfl, hb9⟩
            have B9 : Hid (Below w.heap.size w u9) := below_then hB5.out hb9
            clear hb9
            go_wp2_with fail
            go_ret
            exact ⟨rfl, B9.out⟩
      · have hd : decide ((k : Int) < (n0 : Int)) = false := by simp; omega
        clear hlt
        go_wp2_with fail
        generalize (wr.alloc (.cells #[.int .i64 k2, .int .i64 k3] 29)) = u0 at RI RBl RS RA RV RR ⊢
        generalize wr.heap.size = q at RR ⊢
        clear ca0 ca1 ca2 ca3 ca4 ca5 ca6 Xa Xb
        rw [HNL.out] at HD1
        refine (HD1.out _ RI.out RS.out).mono ?_
        rintro e u1 ⟨p1, c1, rfl, hc1, hi1, hb1⟩
        have V1 : Hid (u1.heap[w.heap.size + 1]? = some (.cells #[.int .i64 j1, .int .i64 j2, .int .i64 j3, .bool j4, .bool j5, .bool j6, .int .i64 j7] 57 (0, 0))) := (hb1.block _ (blk_lt RV.out)).trans RV.out
        have Q1 : Hid (u1.heap[q]? = some (.cells #[.int .i64 k2, .int .i64 k3] 29 (0, 0))) := (hb1.block _ (blk_lt RR.out)).trans RR.out
        have B1 : Hid (Below w.heap.size w u1) := below_then RBl.out hb1
        have J1 : Hid (IsL u1 (w.heap.size + 2) p L) := RI.out.below hb1
        have I1 : Hid (IsL u1 (w.heap.size + 2) p1 X) := hi1
        have S1 : Hid ((w.heap.size + 2) ≤ u1.heap.size) := Nat.le_trans RS.out hb1.size
        clear hc1 hi1 hb1 RA RV RR RI RBl RS HD1
        by_cases z1 : E1 = 0
        rotate_left
        · have zb : (E1 != 0) = true := by simp [z1]
          have x0 := X0.out z1
          rw [x0]
          clear z1 MD X0 x0
          go_wp2_with fail
          refine (AWH.out _).mono ?_
          rintro e u9 ⟨rfl, hb9⟩
          have B9 : Hid (Below w.heap.size w u9) := below_then B1.out hb9
          clear hb9
          go_wp2_with fail
          go_ret
          exact ⟨rfl, B9.out⟩
        have zb : (E1 != 0) = false := by simp [z1]
        obtain ⟨E2, Z, ee, lX, lZ, q1, q2, q3, q4, q5⟩ := MD.out z1
        have d2 : Hid (∀ (p : Option Addr) (c : Nat) (W : World), IsL W (w.heap.size + 2) p X → (w.heap.size + 2) ≤ W.heap.size → Calls Try.prog 14 #[.slice p (X).length c, .agg #[.int .i64 k2, .int .i64 k3], .agg #[.bool j4, .bool j5, .bool j6]] W fun e w' => ∃ p' c', e = .returned (.tuple #[.slice p' (Z).length c', .int .i64 E2]) ∧ (Z).length ≤ c' ∧ IsL w' (w.heap.size + 2) p' Z ∧ Below W.heap.size W w') := fun p c W h hw => prot_outb (w.heap.size + 2) p c X (by omega) k2 k3 j4 j5 j6 _ _ q1 q2 W h hw
        have d3 : Hid (∀ (p : Option Addr) (c : Nat) (W : World), IsL W (w.heap.size + 2) p L → (w.heap.size + 2) ≤ W.heap.size → Calls Try.prog 14 #[.slice p (L).length c, .agg #[.int .i64 k2, .int .i64 k3], .agg #[.bool j4, .bool j5, .bool j6]] W fun e w' => ∃ p' c', e = .returned (.tuple #[.slice p' (Z).length c', .int .i64 E2]) ∧ (Z).length ≤ c' ∧ IsL w' (w.heap.size + 2) p' Z ∧ Below W.heap.size W w') := fun p c W h hw => prot_outb (w.heap.size + 2) p c L (by omega) k2 k3 j4 j5 j6 _ _ q3 q4 W h hw
        obtain ⟨E4, hE4⟩ : ∃ E, errA (protN Z k2 k3) (chg (fun r => r.may j4 j5 j6) k2 k3 Z) = E := ⟨_, rfl⟩
        obtain ⟨Y, hY⟩ : ∃ Y, outL (protN Z k2 k3) (chg (fun r => r.may j4 j5 j6) k2 k3 Z) = Y := ⟨_, rfl⟩
        have d4 : Hid (∀ (p : Option Addr) (c : Nat) (W : World), IsL W (w.heap.size + 2) p Z → (w.heap.size + 2) ≤ W.heap.size → Calls Try.prog 14 #[.slice p (Z).length c, .agg #[.int .i64 k2, .int .i64 k3], .agg #[.bool j4, .bool j5, .bool j6]] W fun e w' => ∃ p' c', e = .returned (.tuple #[.slice p' (Y).length c', .int .i64 E4]) ∧ (Y).length ≤ c' ∧ IsL w' (w.heap.size + 2) p' Y ∧ Below W.heap.size W w') := fun p c W h hw => prot_outb (w.heap.size + 2) p c Z (by omega) k2 k3 j4 j5 j6 _ _ hE4 hY W h hw
        have F4 : Hid (E2 = 0 → E4 = 0 ∧ Y = Z) := fun z => ⟨hE4.symm.trans (q5 z).1, hY.symm.trans (q5 z).2⟩
        have EE : Hid (E2 = 0 ∨ E2 = 4) := ee
        have z1' : Hid (E1 = 0) := z1
        clear q1 q2 q3 q4 q5 hE4 hY MD X0 ee z1
        have d2' : Hid _ := d2.out p1 c1
        have d3' : Hid _ := d3.out p c
        obtain ⟨nX, hnX⟩ : ∃ n, X.length = n := ⟨_, rfl⟩
        rw [hnX] at d2' lX ⊢
        rw [HNL.out] at d3'
        clear hnX d2 d3
        have cb0 : u1.cell? ⟨w.heap.size + 1, 0, none⟩ = some (.int .i64 j1) := Go.Joins.cell_of_block V1.out 0
        have cb1 : u1.cell? ⟨w.heap.size + 1, 1, none⟩ = some (.int .i64 j2) := Go.Joins.cell_of_block V1.out 1
        have cb2 : u1.cell? ⟨w.heap.size + 1, 2, none⟩ = some (.int .i64 j3) := Go.Joins.cell_of_block V1.out 2
        have cb3 : u1.cell? ⟨w.heap.size + 1, 3, none⟩ = some (.bool j4) := Go.Joins.cell_of_block V1.out 3
        have cb4 : u1.cell? ⟨w.heap.size + 1, 4, none⟩ = some (.bool j5) := Go.Joins.cell_of_block V1.out 4
        have cb5 : u1.cell? ⟨w.heap.size + 1, 5, none⟩ = some (.bool j6) := Go.Joins.cell_of_block V1.out 5
        have cb6 : u1.cell? ⟨w.heap.size + 1, 6, none⟩ = some (.int .i64 j7) := Go.Joins.cell_of_block V1.out 6
        have cq0 : u1.cell? ⟨q, 0, none⟩ = some (.int .i64 k2) := Go.Joins.cell_of_block Q1.out 0
        have cq1 : u1.cell? ⟨q, 1, none⟩ = some (.int .i64 k3) := Go.Joins.cell_of_block Q1.out 1
        have l1 : w.heap.size + 1 < u1.heap.size := blk_lt V1.out
        have lq1 : q < u1.heap.size := blk_lt Q1.out
        go_wp2_with fail
        refine (d2'.out _ I1.out S1.out).mono ?_
        rintro e u2 ⟨p2, c2, rfl, hc2, hi2, hb2⟩
        have V2 : Hid (u2.heap[w.heap.size + 1]? = some (.cells #[.int .i64 j1, .int .i64 j2, .int .i64 j3, .bool j4, .bool j5, .bool j6, .int .i64 j7] 57 (0, 0))) := (hb2.block _ (blk_lt V1.out)).trans V1.out
        have Q2 : Hid (u2.heap[q]? = some (.cells #[.int .i64 k2, .int .i64 k3] 29 (0, 0))) := (hb2.block _ (blk_lt Q1.out)).trans Q1.out
        have B2 : Hid (Below w.heap.size w u2) := below_then B1.out hb2
        have J2 : Hid (IsL u2 (w.heap.size + 2) p L) := J1.out.below hb2
        have I2 : Hid (IsL u2 (w.heap.size + 2) p2 Z) := hi2
        have S2 : Hid ((w.heap.size + 2) ≤ u2.heap.size) := Nat.le_trans S1.out hb2.size
        obtain ⟨nZ, hnZ⟩ : ∃ n, Z.length = n := ⟨_, rfl⟩
        have HNZ : Hid (Z.length = nZ) := hnZ
        rw [hnZ] at d3' lZ ⊢
        clear hc2 hi2 hb2 V1 Q1 B1 J1 I1 S1 d2' hnZ l1 lq1 cb0 cb1 cb2 cb3 cb4 cb5 cb6 cq0 cq1
        have cb0 : u2.cell? ⟨w.heap.size + 1, 0, none⟩ = some (.int .i64 j1) := Go.Joins.cell_of_block V2.out 0
        have cb1 : u2.cell? ⟨w.heap.size + 1, 1, none⟩ = some (.int .i64 j2) := Go.Joins.cell_of_block V2.out 1
        have cb2 : u2.cell? ⟨w.heap.size + 1, 2, none⟩ = some (.int .i64 j3) := Go.Joins.cell_of_block V2.out 2
        have cb3 : u2.cell? ⟨w.heap.size + 1, 3, none⟩ = some (.bool j4) := Go.Joins.cell_of_block V2.out 3
        have cb4 : u2.cell? ⟨w.heap.size + 1, 4, none⟩ = some (.bool j5) := Go.Joins.cell_of_block V2.out 4
        have cb5 : u2.cell? ⟨w.heap.size + 1, 5, none⟩ = some (.bool j6) := Go.Joins.cell_of_block V2.out 5
        have cb6 : u2.cell? ⟨w.heap.size + 1, 6, none⟩ = some (.int .i64 j7) := Go.Joins.cell_of_block V2.out 6
        have cq0 : u2.cell? ⟨q, 0, none⟩ = some (.int .i64 k2) := Go.Joins.cell_of_block Q2.out 0
        have cq1 : u2.cell? ⟨q, 1, none⟩ = some (.int .i64 k3) := Go.Joins.cell_of_block Q2.out 1
        have l2 : w.heap.size + 1 < u2.heap.size := blk_lt V2.out
        have lq2 : q < u2.heap.size := blk_lt Q2.out
        go_wp2_with fail
        refine (d3'.out _ J2.out S2.out).mono ?_
        rintro e u3 ⟨p3, c3, rfl, hc3, hi3, hb3⟩
        have V3 : Hid (u3.heap[w.heap.size + 1]? = some (.cells #[.int .i64 j1, .int .i64 j2, .int .i64 j3, .bool j4, .bool j5, .bool j6, .int .i64 j7] 57 (0, 0))) := (hb3.block _ (blk_lt V2.out)).trans V2.out
        have Q3 : Hid (u3.heap[q]? = some (.cells #[.int .i64 k2, .int .i64 k3] 29 (0, 0))) := (hb3.block _ (blk_lt Q2.out)).trans Q2.out
        have B3 : Hid (Below w.heap.size w u3) := below_then B2.out hb3
        have I3 : Hid (IsL u3 (w.heap.size + 2) p2 Z) := I2.out.below hb3
        have J3 : Hid (IsL u3 (w.heap.size + 2) p3 Z) := hi3
        have S3 : Hid ((w.heap.size + 2) ≤ u3.heap.size) := Nat.le_trans S2.out hb3.size
        have d4' : Hid _ := d4.out p3 c3
        rw [HNZ.out] at d4'
        clear hc3 hi3 hb3 V2 Q2 B2 J2 I2 S2 d3' l2 lq2 cb0 cb1 cb2 cb3 cb4 cb5 cb6 cq0 cq1
        have cb0 : u3.cell? ⟨w.heap.size + 1, 0, none⟩ = some (.int .i64 j1) := Go.Joins.cell_of_block V3.out 0
        have cb1 : u3.cell? ⟨w.heap.size + 1, 1, none⟩ = some (.int .i64 j2) := Go.Joins.cell_of_block V3.out 1
        have cb2 : u3.cell? ⟨w.heap.size + 1, 2, none⟩ = some (.int .i64 j3) := Go.Joins.cell_of_block V3.out 2
        have cb3 : u3.cell? ⟨w.heap.size + 1, 3, none⟩ = some (.bool j4) := Go.Joins.cell_of_block V3.out 3
        have cb4 : u3.cell? ⟨w.heap.size + 1, 4, none⟩ = some (.bool j5) := Go.Joins.cell_of_block V3.out 4
        have cb5 : u3.cell? ⟨w.heap.size + 1, 5, none⟩ = some (.bool j6) := Go.Joins.cell_of_block V3.out 5
        have cb6 : u3.cell? ⟨w.heap.size + 1, 6, none⟩ = some (.int .i64 j7) := Go.Joins.cell_of_block V3.out 6
        have cq0 : u3.cell? ⟨q, 0, none⟩ = some (.int .i64 k2) := Go.Joins.cell_of_block Q3.out 0
        have cq1 : u3.cell? ⟨q, 1, none⟩ = some (.int .i64 k3) := Go.Joins.cell_of_block Q3.out 1
        have l3 : w.heap.size + 1 < u3.heap.size := blk_lt V3.out
        have lq3 : q < u3.heap.size := blk_lt Q3.out
        go_wp2_with fail
        refine (d4'.out _ J3.out S3.out).mono ?_
        rintro e u4 ⟨p4, c4, rfl, hc4, hi4, hb4⟩
        have B4 : Hid (Below w.heap.size w u4) := below_then B3.out hb4
        have I4 : Hid (IsL u4 (w.heap.size + 2) p2 Z) := I3.out.below hb4
        have J4 : Hid (IsL u4 (w.heap.size + 2) p3 Z) := J3.out.below hb4
        have K4 : Hid (IsL u4 (w.heap.size + 2) p4 Y) := hi4
        clear hc4 hi4 hb4 V3 Q3 B3 J3 I3 S3 d4' d4 l3 lq3 cb0 cb1 cb2 cb3 cb4 cb5 cb6 cq0 cq1
        by_cases z2 : E2 = 0
        rotate_left
        · have e4 : E2 = 4 := by have := EE.out; omega
          subst e4
          clear F4 EE z2
          generalize Y.length = nY
          go_wp2_with fail
          refine (AWH.out _).mono ?_
          rintro e u9 ⟨rfl, hb9⟩
          have B9 : Hid (Below w.heap.size w u9) := below_then B4.out hb9
          clear hb9
          go_wp2_with fail
          go_ret
          exact ⟨rfl, B9.out⟩
        obtain ⟨f1, f2⟩ := F4.out z2
        subst f1 z2
        rw [f2] at K4 ⊢
        rw [HNZ.out]
        clear F4 EE f2
        go_wp2_with fail
        go_loopw [122] (fun x W => ∃ m : Nat, m ≤ nZ ∧ x = .int .i64 m ∧ Hid (IsL W (w.heap.size + 2) p2 Z) ∧ Hid (IsL W (w.heap.size + 2) p3 Z) ∧ Hid (IsL W (w.heap.size + 2) p4 Z) ∧ Hid (Below w.heap.size w W)) (fun x _ => nZ - (intOf x).toNat)
        case atStart => exact ⟨0, by omega, rfl, I4, J4, K4, B4⟩
        case round =>
          obtain ⟨m, hm, rfl, hI5, hJ5, hK5, hB5⟩ := hrel
          by_cases hlm : m < nZ
          · have hd : decide ((m : Int) < (nZ : Int)) = true := by simp; omega
            have m0 : (0 : Int) ≤ (m : Int) := by omega
            have m1 : (m : Int) < (nZ : Int) := by omega
            obtain ⟨g, rfl, _, g2, gc⟩ := hI5.out m (by rw [HNZ.out]; exact hlm)
            obtain ⟨g', rfl, _, g2', gc'⟩ := hJ5.out m (by rw [HNZ.out]; exact hlm)
            obtain ⟨g'', rfl, _, g2'', gc''⟩ := hK5.out m (by rw [HNZ.out]; exact hlm)
            generalize Z.getD m Rg.zero = rr at gc gc' gc''
            obtain ⟨r1, r2, r3, r4, r5, r6⟩ := rr
            have y0 : wr.cell? ⟨g, m * 6, none⟩ = some (.int .i64 r1) := gc 0 _ rfl
            have y1 : wr.cell? ⟨g, m * 6 + 1, none⟩ = some (.int .i64 r2) := gc 1 _ rfl
            have y2 : wr.cell? ⟨g, m * 6 + 2, none⟩ = some (.bool r3) := gc 2 _ rfl
            have y3 : wr.cell? ⟨g, m * 6 + 3, none⟩ = some (.bool r4) := gc 3 _ rfl
            have y4 : wr.cell? ⟨g, m * 6 + 4, none⟩ = some (.bool r5) := gc 4 _ rfl
            have y5 : wr.cell? ⟨g, m * 6 + 5, none⟩ = some (.int .i64 r6) := gc 5 _ rfl
            have z0 : wr.cell? ⟨g', m * 6, none⟩ = some (.int .i64 r1) := gc' 0 _ rfl
            have z1 : wr.cell? ⟨g', m * 6 + 1, none⟩ = some (.int .i64 r2) := gc' 1 _ rfl
            have z2 : wr.cell? ⟨g', m * 6 + 2, none⟩ = some (.bool r3) := gc' 2 _ rfl
            have z3 : wr.cell? ⟨g', m * 6 + 3, none⟩ = some (.bool r4) := gc' 3 _ rfl
            have z4 : wr.cell? ⟨g', m * 6 + 4, none⟩ = some (.bool r5) := gc' 4 _ rfl
            have z5 : wr.cell? ⟨g', m * 6 + 5, none⟩ = some (.int .i64 r6) := gc' 5 _ rfl
            have x0 : wr.cell? ⟨g'', m * 6, none⟩ = some (.int .i64 r1) := gc'' 0 _ rfl
            have x1 : wr.cell? ⟨g'', m * 6 + 1, none⟩ = some (.int .i64 r2) := gc'' 1 _ rfl
            have x2 : wr.cell? ⟨g'', m * 6 + 2, none⟩ = some (.bool r3) := gc'' 2 _ rfl
            have x3 : wr.cell? ⟨g'', m * 6 + 3, none⟩ = some (.bool r4) := gc'' 3 _ rfl
            have x4 : wr.cell? ⟨g'', m * 6 + 4, none⟩ = some (.bool r5) := gc'' 4 _ rfl
            have x5 : wr.cell? ⟨g'', m * 6 + 5, none⟩ = some (.int .i64 r6) := gc'' 5 _ rfl
            clear gc gc' gc''
            go_wp2_with fail
            go_quiet (fail)
            go_wp2_with fail
            go_roundw
            case rel => exact ⟨m + 1, by omega, by go_num, IsL.drewn hI5.out, IsL.drewn hJ5.out, IsL.drewn hK5.out, below_drewn hB5.out⟩
            case measure => simp [intOf]; omega
          · have hd : decide ((m : Int) < (nZ : Int)) = false := by simp; omega
            go_wp2_with fail
            refine (AWH.out _).mono ?_
            rintro e u9 ⟨rfl, hb9⟩
            have B9 : Hid (Below w.heap.size w u9) := below_then hB5.out hb9
            clear hb9
            go_wp2_with fail
            go_ret
            exact ⟨rfl, B9.out⟩

theorem own : ownKnob Try.prog.godebug = none := by kernel_rfl
theorem laidOut : laidOutB Try.prog = true := by kernel_rfl
set_option maxRecDepth 100000 in
theorem lifted (os : Os) (started : os.Started) (H : Type) (enc : TypeId × Value → H) :
    ReturnsInHanded {} Try.checked os 8 .any (Rows.regionTwiceSpec.pre6 enc Try.prog Try.f8 Rows.regionTwiceRow.domain false) (Rows.regionTwiceSpec.post enc Try.prog Try.f8 false true false false) := by
  refine returnsInHanded_of_change (C := Try.checked) own started (by kernel_rfl) Try.func8
    (ChangeSpec.witness6 (enc := enc) (C := Try.checked) false ⟨#[], #[.slice none 0 0, .agg #[.int .i64 0, .int .i64 0, .int .i64 0, .bool false, .bool false, .bool false, .int .i64 0], .agg #[.int .i64 0, .int .i64 0, .int .i64 0, .bool false, .bool false, .bool false, .int .i64 0]], []⟩ 8 (by kernel_rfl) (by kernel_rfl) (by kernel_rfl) (by kernel_rfl)) ?_
  intro W base args ds gs before hval0 hW hcnd _
  have hval : ∀ (j : Nat) t v, Try.f8.params[j]? = some t → args[j]? = some v → Value.okWide Try.prog W .any base t v := hval0
  have hW' := hW
  obtain ⟨p, q, hA0, hV, hbef, hfz, hnd⟩ := hW
  have hA : DataW.TrodAll enc Try.prog W 0 (fun _ => true) true Try.f8.params.toList args.toList ds p := hA0
  have hAk := hA
  have hlt : ∀ x ∈ p, x.block < W.heap.size := fun x hx => hW'.lt x (by rw [hbef]; exact List.mem_append_left _ hx)
  rw [Try.params8] at hA hval
  obtain ⟨v0, vs0, d0, ds0, p0, q0, hargs, rfl, hp0, h0, r0⟩ := trodAll_cons hA
  obtain ⟨v1, vs1, d1, ds1, p1, q1, rfl, rfl, hp1, h1, r1⟩ := trodAll_cons r0
  obtain ⟨v2, vs2, d2, ds2, p2, q2, rfl, rfl, hp2, h2, r2⟩ := trodAll_cons r1
  obtain ⟨rfl, rfl, hpz⟩ := trodAll_nil r2
  obtain rfl : args = #[v0, v1, v2] := by cases args; simp_all
  obtain ⟨rfl, rfl⟩ := trodVars_none hV
  obtain ⟨p0, n0, c0, A0, rfl, m0, H0⟩ := open_acts (hval 0 55 v0 rfl rfl) h0
  obtain ⟨a1, rfl, w1f, w1t⟩ := open_act (hval 1 57 v1 rfl rfl) h1
  obtain ⟨a2, rfl, w2f, w2t⟩ := open_act (hval 2 57 v2 rfl rfl) h2
  clear hA0 hval0
  refine (walk p0 n0 c0 A0 m0 a1 w1f w1t a2 w2f w2t W H0).mono fun e W' ⟨he, hg⟩ => ?_
  subst he
  exact ⟨_, rfl, ⟨_, _, _, [], p, [], hW', (trodAll_cons_mk (shut_bool Try.underlying4 _) trodAll_mk0), args_stay laidOut hg (by kernel_rfl) hAk hlt, rfl, hg.frame _, fun h => by cases h⟩⟩

theorem over : Rows.regionTwiceRow.holds Try.pinned (OpenSpec.ofChange Rows.regionTwiceSpec) :=
  OpenClaim.holds_of_wide 8 Try.f8 rfl rfl rfl rfl rfl rfl rfl ⟨rfl, rfl, rfl, rfl, rfl⟩ rfl rfl rfl rfl rfl (by kernel_rfl) Try.func8 (by kernel_rfl)
    (of_decide_eq_true (by kernel_rfl)) (by unfold Func.isWrapper; first | (rw [if_pos (by decide +kernel)]; kernel_rfl) | (rw [if_neg (by decide +kernel)]; exact ⟨rfl, rfl⟩))
    (fun os started H enc _ => lifted os started H enc)

theorem proved : Rows.RegionTwiceSaid :=
  over
#print axioms proved
end Go.Proofs.Ytngaodfajihmmaa.regionTwice
