/- For any changes and any two changes: behind any 20 changes, in whatever order two stretches of pages are added the same list comes of it, of at most two regions more, and it is good; no condition. -/
import Derived.Test.YtngaodfajihmmaaRows
import Derived.ProofKit
import Derived.OpenShut
import Derived.Carry
import Derived.Test.YtngaodfajihmmaaG14
import Derived.Deep.QuietTactic
import Derived.BigQuiet
namespace Go.Proofs.Ytngaodfajihmmaa.regionOrder
open Go.ChangeShapes Go.WideShapes Go.ChangeAt Go.RowKit Go.Maps
set_option linter.unusedSimpArgs false
set_option linter.unusedVariables false
theorem IsL.sc {base b o : Nat} {X : World} {v : Value} {p : Option Addr} {B : List Rg} (h : IsL X base p B) (hb : b < base) : IsL (X.setCell ⟨b, o, none⟩ v) base p B := fun i hi => by
  obtain ⟨g, e, l1, l2, c⟩ := h i hi
  exact ⟨g, e, l1, by rw [World.size_setCell]; exact l2, fun j x hx => (World.cell?_of_block (w := X) (a := ⟨g, i * 6 + j, none⟩) (Below.heap_setCell _ _ _ _ (by show g ≠ b; omega))).trans (c j x hx)⟩
theorem IsL.drewn {base m : Nat} {X : World} {p : Option Addr} {B : List Rg} (h : IsL X base p B) : IsL (X.drewN m) base p B := h
theorem below_drewn {n m : Nat} {w X : World} (h : Below n w X) : Below n w (X.drewN m) := ⟨h.os, h.tape, h.output, h.size, h.block⟩

set_option maxRecDepth 8000 in
set_option maxHeartbeats 16000000 in
theorem walk (p0 : Option Addr) (n0 c0 : Nat) (A0 : Nat → Ac) (m0 : n0 ≤ maxLen) (a1 : Ac) (w1f : -9223372036854775808 ≤ a1.fr ∧ a1.fr ≤ 9223372036854775807) (w1t : -9223372036854775808 ≤ a1.til ∧ a1.til ≤ 9223372036854775807) (a2 : Ac) (w2f : -9223372036854775808 ≤ a2.fr ∧ a2.fr ≤ 9223372036854775807) (w2t : -9223372036854775808 ≤ a2.til ∧ a2.til ≤ 9223372036854775807) (w : World) (H0 : IsActs w p0 n0 A0) :
    Calls Try.prog 7 #[.slice p0 n0 c0, a1.val, a2.val] w fun e w' => e = .returned (.bool true) ∧ Below w.heap.size w w' := by
  have AWH : Hid (∀ W : World, Calls Try.prog 16 #[] W fun e w' => e = .returned (.bool true) ∧ Below W.heap.size W w') := fun W => awake_any W
  have DC : Hid (∀ (L : List Rg), goodB L = true → ∀ (p : Option Addr) (c : Nat), L.length ≤ c → ∀ (a : Ac) (W : World), IsL W (w.heap.size + 2) p L → (w.heap.size + 2) ≤ W.heap.size → Calls Try.prog 25 #[.slice p L.length c, a.val] W fun e w' => ∃ p' c', e = .returned (.tuple #[.slice p' (actL L a).length c', .int .i64 (actE L a)]) ∧ (actL L a).length ≤ c' ∧ IsL w' (w.heap.size + 2) p' (actL L a) ∧ Below W.heap.size W w') := fun L g p c hc a W h hw => does_b (w.heap.size + 2) p c L (by have := (good_can g).2.2; omega) hc a W h hw
  have GC : Hid (∀ (L : List Rg), goodB L = true → ∀ (p : Option Addr) (c : Nat) (W : World), IsL W (w.heap.size + 2) p L → Calls Try.prog 21 #[.slice p L.length c] W fun e w' => e = .returned (.bool true) ∧ Below W.heap.size W w') := fun L g p c W h => by
    have := good_any (w.heap.size + 2) p c L (by have := (good_can g).2.2; omega) W h
    rw [g] at this; exact this
  have HA : Hid (IsActs w p0 n0 A0) := H0
  clear H0
  have mm : (n0 : Int) ≤ 9223372036854775807 := by have : maxLen ≤ 9223372036854775807 := by decide +kernel
                                                   omega
  obtain ⟨k1, k2, k3, k4, k5, k6, k7⟩ := a1
  obtain ⟨j1, j2, j3, j4, j5, j6, j7⟩ := a2
  go_enter Try.func7, Try.ntmps7
  go_wp2_with fail
  go_loopw [7, 8] (fun l x W => ∃ (k : Nat) (L : List Rg) (p : Option Addr) (c : Nat), k ≤ n0 ∧ k ≤ 20 ∧ l = .slice p L.length c ∧ x = .int .i64 k ∧ Hid (goodB L = true) ∧ Hid (L.length ≤ c) ∧ Hid (IsL W (w.heap.size + 2) p L) ∧ Hid (Below w.heap.size w W) ∧ Hid (W.heap[w.heap.size]? = some (.cells #[.int .i64 k1, .int .i64 k2, .int .i64 k3, .bool k4, .bool k5, .bool k6, .int .i64 k7] 57 (0, 0))) ∧ Hid (W.heap[w.heap.size + 1]? = some (.cells #[.int .i64 j1, .int .i64 j2, .int .i64 j3, .bool j4, .bool j5, .bool j6, .int .i64 j7] 57 (0, 0)))) (fun _ x _ => 20 - (intOf x).toNat)
  case atStart => exact ⟨0, [], none, 0, by omega, by omega, rfl, rfl, rfl, Nat.le_refl _, nil_isb _ _, Go.Joins.below_alloc2 _ _ _, ((Go.Joins.below_alloc1 _ _).block _ (by rw [World.size_alloc]; omega)).trans (own1 w _), (by have := own1 (w.alloc (.cells #[.int .i64 k1, .int .i64 k2, .int .i64 k3, .bool k4, .bool k5, .bool k6, .int .i64 k7] 57)) (.cells #[.int .i64 j1, .int .i64 j2, .int .i64 j3, .bool j4, .bool j5, .bool j6, .int .i64 j7] 57); rw [World.size_alloc] at this; exact this)⟩
  case round =>
    obtain ⟨k, L, p, c, hk, hk3, rfl, rfl, hG, hC, hI, hB, Xa, Xb⟩ := hrel
    have lw : w.heap.size < wr.heap.size := blk_lt Xa.out
    have lbb : (w.heap.size + 2) ≤ wr.heap.size := by have := blk_lt Xb.out; omega
    by_cases hlt : k < n0 ∧ k < 20
    · have hd : decide ((k : Int) < (n0 : Int)) = true := by simp; omega
      have hd2 : decide ((k : Int) < 20) = true := by simp; omega
      obtain ⟨b, o, rfl, lb, cc, _, _⟩ := HA.out k hlt.1
      generalize A0 k = a at cc
      have GD : Hid (goodB (actL L a) = true) := act_good hG.out a
      have D1 : Hid _ := DC.out L hG.out p c hC.out a
      generalize actE L a = E at D1
      generalize actL L a = L2 at GD D1
      obtain ⟨h1, h2, h3, h4, h5, h6, h7⟩ := a
      have y0 : wr.cell? ⟨b, o + k * 7, none⟩ = some (.int .i64 h1) := (hB.out.cell (p := ⟨b, _, none⟩) lb).trans (cc 0 _ rfl)
      have y1 : wr.cell? ⟨b, o + k * 7 + 1, none⟩ = some (.int .i64 h2) := (hB.out.cell (p := ⟨b, _, none⟩) lb).trans (cc 1 _ rfl)
      have y2 : wr.cell? ⟨b, o + k * 7 + 2, none⟩ = some (.int .i64 h3) := (hB.out.cell (p := ⟨b, _, none⟩) lb).trans (cc 2 _ rfl)
      have y3 : wr.cell? ⟨b, o + k * 7 + 3, none⟩ = some (.bool h4) := (hB.out.cell (p := ⟨b, _, none⟩) lb).trans (cc 3 _ rfl)
      have y4 : wr.cell? ⟨b, o + k * 7 + 4, none⟩ = some (.bool h5) := (hB.out.cell (p := ⟨b, _, none⟩) lb).trans (cc 4 _ rfl)
      have y5 : wr.cell? ⟨b, o + k * 7 + 5, none⟩ = some (.bool h6) := (hB.out.cell (p := ⟨b, _, none⟩) lb).trans (cc 5 _ rfl)
      have y6 : wr.cell? ⟨b, o + k * 7 + 6, none⟩ = some (.int .i64 h7) := (hB.out.cell (p := ⟨b, _, none⟩) lb).trans (cc 6 _ rfl)
      clear cc
      have lbw : b < wr.heap.size := Nat.lt_of_lt_of_le lb hB.out.size
      generalize hLn : L.length = nL at D1 ⊢
      go_wp2_with fail
      refine (D1.out _ hI.out lbb).mono ?_
      rintro e u1 ⟨p1, c1, rfl, hc1, hi1, hb1⟩
      have B1 : Hid (Below w.heap.size w u1) := below_then hB.out hb1
      have I1 : Hid (IsL u1 (w.heap.size + 2) p1 L2) := hi1
      have Cc : Hid (L2.length ≤ c1) := hc1
      have Ya : Hid (u1.heap[w.heap.size]? = some (.cells #[.int .i64 k1, .int .i64 k2, .int .i64 k3, .bool k4, .bool k5, .bool k6, .int .i64 k7] 57 (0, 0))) := (hb1.block _ (blk_lt Xa.out)).trans Xa.out
      have Yb : Hid (u1.heap[w.heap.size + 1]? = some (.cells #[.int .i64 j1, .int .i64 j2, .int .i64 j3, .bool j4, .bool j5, .bool j6, .int .i64 j7] 57 (0, 0))) := (hb1.block _ (blk_lt Xb.out)).trans Xb.out
      clear hb1 hi1 hc1
      obtain ⟨nL2, hn2⟩ : ∃ n, L2.length = n := ⟨_, rfl⟩
      rw [hn2]
      have HN2 : Hid (L2.length = nL2) := hn2
      clear hn2
      go_wp2_with fail
      go_roundw
      case rel => exact ⟨k + 1, L2, p1, c1, by omega, by omega, by rw [HN2.out], by go_num, GD, Cc, I1, B1, Ya, Yb⟩
      case measure => simp [intOf]; omega
    · clear HA
      have hstop : ∀ (Q : Prop), (decide ((k : Int) < (n0 : Int)) = false → Q) → (decide ((k : Int) < (n0 : Int)) = true → decide ((k : Int) < 20) = false → Q) → Q := fun Q f g => by
        by_cases c : k < n0
        · exact g (by simp; omega) (by simp; omega)
        · exact f (by simp; omega)
      have IU : Hid (IsL ((wr.setCell ⟨w.heap.size, 0, none⟩ (.int .i64 1)).setCell ⟨w.heap.size + 1, 0, none⟩ (.int .i64 1)) (w.heap.size + 2) p L) := IsL.sc (IsL.sc hI.out (by omega)) (by omega)
      have BU : Hid (Below w.heap.size w ((wr.setCell ⟨w.heap.size, 0, none⟩ (.int .i64 1)).setCell ⟨w.heap.size + 1, 0, none⟩ (.int .i64 1))) := (hB.out.setCell (Nat.le_refl _) _).setCell (by show w.heap.size ≤ w.heap.size + 1; omega) _
      have AU : Hid (((wr.setCell ⟨w.heap.size, 0, none⟩ (.int .i64 1)).setCell ⟨w.heap.size + 1, 0, none⟩ (.int .i64 1)).heap[w.heap.size]? = some (.cells #[.int .i64 1, .int .i64 k2, .int .i64 k3, .bool k4, .bool k5, .bool k6, .int .i64 k7] 57 (0, 0))) := (Below.heap_setCell _ _ _ _ (by show w.heap.size ≠ w.heap.size + 1; omega)).trans (Go.Joins.block_setCell Xa.out _)
      have VU : Hid (((wr.setCell ⟨w.heap.size, 0, none⟩ (.int .i64 1)).setCell ⟨w.heap.size + 1, 0, none⟩ (.int .i64 1)).heap[w.heap.size + 1]? = some (.cells #[.int .i64 1, .int .i64 j2, .int .i64 j3, .bool j4, .bool j5, .bool j6, .int .i64 j7] 57 (0, 0))) := Go.Joins.block_setCell ((Below.heap_setCell _ _ _ _ (by show w.heap.size + 1 ≠ w.heap.size; omega)).trans Xb.out) _
      have SU : Hid ((w.heap.size + 2) ≤ ((wr.setCell ⟨w.heap.size, 0, none⟩ (.int .i64 1)).setCell ⟨w.heap.size + 1, 0, none⟩ (.int .i64 1)).heap.size) := by show _ ≤ _; simp only [World.size_setCell]; exact lbb
      have ca0 : wr.cell? ⟨w.heap.size, 0, none⟩ = some (.int .i64 k1) := Go.Joins.cell_of_block Xa.out 0
      have ca1 : wr.cell? ⟨w.heap.size, 1, none⟩ = some (.int .i64 k2) := Go.Joins.cell_of_block Xa.out 1
      have ca2 : wr.cell? ⟨w.heap.size, 2, none⟩ = some (.int .i64 k3) := Go.Joins.cell_of_block Xa.out 2
      have ca3 : wr.cell? ⟨w.heap.size, 3, none⟩ = some (.bool k4) := Go.Joins.cell_of_block Xa.out 3
      have ca4 : wr.cell? ⟨w.heap.size, 4, none⟩ = some (.bool k5) := Go.Joins.cell_of_block Xa.out 4
      have ca5 : wr.cell? ⟨w.heap.size, 5, none⟩ = some (.bool k6) := Go.Joins.cell_of_block Xa.out 5
      have ca6 : wr.cell? ⟨w.heap.size, 6, none⟩ = some (.int .i64 k7) := Go.Joins.cell_of_block Xa.out 6
      have caf0 : wr.frozen? ⟨w.heap.size, 0, none⟩ = false := Go.Joins.unfrozen_of_block Xa.out 0
      have cb0 : wr.cell? ⟨w.heap.size + 1, 0, none⟩ = some (.int .i64 j1) := Go.Joins.cell_of_block Xb.out 0
      have cb1 : wr.cell? ⟨w.heap.size + 1, 1, none⟩ = some (.int .i64 j2) := Go.Joins.cell_of_block Xb.out 1
      have cb2 : wr.cell? ⟨w.heap.size + 1, 2, none⟩ = some (.int .i64 j3) := Go.Joins.cell_of_block Xb.out 2
      have cb3 : wr.cell? ⟨w.heap.size + 1, 3, none⟩ = some (.bool j4) := Go.Joins.cell_of_block Xb.out 3
      have cb4 : wr.cell? ⟨w.heap.size + 1, 4, none⟩ = some (.bool j5) := Go.Joins.cell_of_block Xb.out 4
      have cb5 : wr.cell? ⟨w.heap.size + 1, 5, none⟩ = some (.bool j6) := Go.Joins.cell_of_block Xb.out 5
      have cb6 : wr.cell? ⟨w.heap.size + 1, 6, none⟩ = some (.int .i64 j7) := Go.Joins.cell_of_block Xb.out 6
      have cbf0 : wr.frozen? ⟨w.heap.size + 1, 0, none⟩ = false := Go.Joins.unfrozen_of_block Xb.out 0
      have lw1 : w.heap.size + 1 < wr.heap.size := by omega
      have ga : Hid (goodB (actL L (⟨1, k2, k3, k4, k5, k6, k7⟩ : Ac)) = true) := act_good hG.out _
      have gb : Hid (goodB (actL L (⟨1, j2, j3, j4, j5, j6, j7⟩ : Ac)) = true) := act_good hG.out _
      have gab : Hid (goodB (actL (actL L (⟨1, k2, k3, k4, k5, k6, k7⟩ : Ac)) (⟨1, j2, j3, j4, j5, j6, j7⟩ : Ac)) = true) := act_good ga.out _
      have d1 : Hid _ := DC.out L hG.out p c hC.out (⟨1, k2, k3, k4, k5, k6, k7⟩ : Ac)
      have d3 : Hid _ := DC.out L hG.out p c hC.out (⟨1, j2, j3, j4, j5, j6, j7⟩ : Ac)
      have d2 : Hid _ := fun (p' : Option Addr) (c' : Nat) (h' : (actL L (⟨1, k2, k3, k4, k5, k6, k7⟩ : Ac)).length ≤ c') => DC.out (actL L (⟨1, k2, k3, k4, k5, k6, k7⟩ : Ac)) ga.out p' c' h' (⟨1, j2, j3, j4, j5, j6, j7⟩ : Ac)
      have d4 : Hid _ := fun (p' : Option Addr) (c' : Nat) (h' : (actL L (⟨1, j2, j3, j4, j5, j6, j7⟩ : Ac)).length ≤ c') => DC.out (actL L (⟨1, j2, j3, j4, j5, j6, j7⟩ : Ac)) gb.out p' c' h' (⟨1, k2, k3, k4, k5, k6, k7⟩ : Ac)
      have OR : Hid (actE L (⟨1, k2, k3, k4, k5, k6, k7⟩ : Ac) = 0 → actE (actL L (⟨1, k2, k3, k4, k5, k6, k7⟩ : Ac)) (⟨1, j2, j3, j4, j5, j6, j7⟩ : Ac) = 0 → actE L (⟨1, j2, j3, j4, j5, j6, j7⟩ : Ac) = 0 → actE (actL L (⟨1, j2, j3, j4, j5, j6, j7⟩ : Ac)) (⟨1, k2, k3, k4, k5, k6, k7⟩ : Ac) = 0 → actL (actL L (⟨1, k2, k3, k4, k5, k6, k7⟩ : Ac)) (⟨1, j2, j3, j4, j5, j6, j7⟩ : Ac) = actL (actL L (⟨1, j2, j3, j4, j5, j6, j7⟩ : Ac)) (⟨1, k2, k3, k4, k5, k6, k7⟩ : Ac)) := fun q1 q2 q3 q4 => order hG.out rfl rfl q1 q2 q3 q4
      have LE : Hid (actE L (⟨1, k2, k3, k4, k5, k6, k7⟩ : Ac) = 0 → actE (actL L (⟨1, k2, k3, k4, k5, k6, k7⟩ : Ac)) (⟨1, j2, j3, j4, j5, j6, j7⟩ : Ac) = 0 → (actL (actL L (⟨1, k2, k3, k4, k5, k6, k7⟩ : Ac)) (⟨1, j2, j3, j4, j5, j6, j7⟩ : Ac)).length ≤ L.length + 2) := fun q1 q2 => (by have := act_len (a := (⟨1, k2, k3, k4, k5, k6, k7⟩ : Ac)) rfl q1; have := act_len (a := (⟨1, j2, j3, j4, j5, j6, j7⟩ : Ac)) rfl q2; omega)
      have gg : Hid _ := GC.out (actL (actL L (⟨1, k2, k3, k4, k5, k6, k7⟩ : Ac)) (⟨1, j2, j3, j4, j5, j6, j7⟩ : Ac)) gab.out
      have LB : Hid ((actL (actL L (⟨1, k2, k3, k4, k5, k6, k7⟩ : Ac)) (⟨1, j2, j3, j4, j5, j6, j7⟩ : Ac)).length ≤ 64) := (good_can gab.out).2.2
      clear DC GC
      generalize actE (actL L (⟨1, k2, k3, k4, k5, k6, k7⟩ : Ac)) (⟨1, j2, j3, j4, j5, j6, j7⟩ : Ac) = E2 at d2 OR LE
      generalize actE (actL L (⟨1, j2, j3, j4, j5, j6, j7⟩ : Ac)) (⟨1, k2, k3, k4, k5, k6, k7⟩ : Ac) = E4 at d4 OR
      generalize actE L (⟨1, k2, k3, k4, k5, k6, k7⟩ : Ac) = E1 at d1 OR LE
      generalize actE L (⟨1, j2, j3, j4, j5, j6, j7⟩ : Ac) = E3 at d3 OR
      generalize actL (actL L (⟨1, k2, k3, k4, k5, k6, k7⟩ : Ac)) (⟨1, j2, j3, j4, j5, j6, j7⟩ : Ac) = XY at d2 OR LE gab gg LB
      generalize actL (actL L (⟨1, j2, j3, j4, j5, j6, j7⟩ : Ac)) (⟨1, k2, k3, k4, k5, k6, k7⟩ : Ac) = YX at d4 OR
      generalize actL L (⟨1, k2, k3, k4, k5, k6, k7⟩ : Ac) = X1 at d1 d2 ga
      generalize actL L (⟨1, j2, j3, j4, j5, j6, j7⟩ : Ac) = Y1 at d3 d4 gb
      obtain ⟨nL, hnL⟩ : ∃ n, L.length = n := ⟨_, rfl⟩
      have nlb : nL ≤ 64 := by rw [← hnL]; exact (good_can hG.out).2.2
      have nlc : (nL : Int) ≤ 64 := by omega
      rw [hnL] at d1 d3 LE ⊢
      clear hnL
      clear hI
      by_cases hq : k < n0
      · have hd : decide ((k : Int) < (n0 : Int)) = true := by simp; omega
        have hd2 : decide ((k : Int) < 20) = false := by simp; omega
        clear hlt hstop
        go_wp2_with fail
        generalize ((wr.setCell ⟨w.heap.size, 0, none⟩ (.int .i64 1)).setCell ⟨w.heap.size + 1, 0, none⟩ (.int .i64 1)) = u0 at IU BU AU VU SU ⊢
        clear ca0 ca1 ca2 ca3 ca4 ca5 ca6 caf0 cb0 cb1 cb2 cb3 cb4 cb5 cb6 cbf0 Xa Xb
        refine (d1.out _ IU.out SU.out).mono ?_
        rintro e u1 ⟨p1, c1, rfl, hc1, hi1, hb1⟩
        have A1 : Hid (u1.heap[w.heap.size]? = some (.cells #[.int .i64 1, .int .i64 k2, .int .i64 k3, .bool k4, .bool k5, .bool k6, .int .i64 k7] 57 (0, 0))) := (hb1.block _ (blk_lt AU.out)).trans AU.out
        have V1 : Hid (u1.heap[w.heap.size + 1]? = some (.cells #[.int .i64 1, .int .i64 j2, .int .i64 j3, .bool j4, .bool j5, .bool j6, .int .i64 j7] 57 (0, 0))) := (hb1.block _ (blk_lt VU.out)).trans VU.out
        have B1 : Hid (Below w.heap.size w u1) := below_then BU.out hb1
        have J1 : Hid (IsL u1 (w.heap.size + 2) p L) := IU.out.below hb1
        have I1 : Hid (IsL u1 (w.heap.size + 2) p1 X1) := hi1
        have S1 : Hid ((w.heap.size + 2) ≤ u1.heap.size) := Nat.le_trans SU.out hb1.size
        have e2 : Hid _ := d2.out p1 c1 hc1
        obtain ⟨n1, hn1⟩ : ∃ n, X1.length = n := ⟨_, rfl⟩
        rw [hn1] at e2 ⊢
        clear hc1 hi1 hb1 AU VU BU IU SU d1 d2 hn1
        have cb0 : u1.cell? ⟨w.heap.size + 1, 0, none⟩ = some (.int .i64 1) := Go.Joins.cell_of_block V1.out 0
        have cb1 : u1.cell? ⟨w.heap.size + 1, 1, none⟩ = some (.int .i64 j2) := Go.Joins.cell_of_block V1.out 1
        have cb2 : u1.cell? ⟨w.heap.size + 1, 2, none⟩ = some (.int .i64 j3) := Go.Joins.cell_of_block V1.out 2
        have cb3 : u1.cell? ⟨w.heap.size + 1, 3, none⟩ = some (.bool j4) := Go.Joins.cell_of_block V1.out 3
        have cb4 : u1.cell? ⟨w.heap.size + 1, 4, none⟩ = some (.bool j5) := Go.Joins.cell_of_block V1.out 4
        have cb5 : u1.cell? ⟨w.heap.size + 1, 5, none⟩ = some (.bool j6) := Go.Joins.cell_of_block V1.out 5
        have cb6 : u1.cell? ⟨w.heap.size + 1, 6, none⟩ = some (.int .i64 j7) := Go.Joins.cell_of_block V1.out 6
        have l1 : w.heap.size + 1 < u1.heap.size := blk_lt V1.out
        go_wp2_with fail
        refine (e2.out _ I1.out S1.out).mono ?_
        rintro e u2 ⟨p2, c2, rfl, hc2, hi2, hb2⟩
        have A2 : Hid (u2.heap[w.heap.size]? = some (.cells #[.int .i64 1, .int .i64 k2, .int .i64 k3, .bool k4, .bool k5, .bool k6, .int .i64 k7] 57 (0, 0))) := (hb2.block _ (blk_lt A1.out)).trans A1.out
        have V2 : Hid (u2.heap[w.heap.size + 1]? = some (.cells #[.int .i64 1, .int .i64 j2, .int .i64 j3, .bool j4, .bool j5, .bool j6, .int .i64 j7] 57 (0, 0))) := (hb2.block _ (blk_lt V1.out)).trans V1.out
        have B2 : Hid (Below w.heap.size w u2) := below_then B1.out hb2
        have J2 : Hid (IsL u2 (w.heap.size + 2) p L) := J1.out.below hb2
        have I2 : Hid (IsL u2 (w.heap.size + 2) p2 XY) := hi2
        have S2 : Hid ((w.heap.size + 2) ≤ u2.heap.size) := Nat.le_trans S1.out hb2.size
        have gg2 : Hid _ := gg.out p2 c2
        obtain ⟨n2, hn2⟩ : ∃ n, XY.length = n := ⟨_, rfl⟩
        have HN2 : Hid (XY.length = n2) := hn2
        rw [hn2] at LE LB gg2 ⊢
        clear hc2 hi2 hb2 A1 V1 B1 J1 I1 S1 e2 hn2 l1 gg cb0 cb1 cb2 cb3 cb4 cb5 cb6
        have cb0 : u2.cell? ⟨w.heap.size + 1, 0, none⟩ = some (.int .i64 1) := Go.Joins.cell_of_block V2.out 0
        have cb1 : u2.cell? ⟨w.heap.size + 1, 1, none⟩ = some (.int .i64 j2) := Go.Joins.cell_of_block V2.out 1
        have cb2 : u2.cell? ⟨w.heap.size + 1, 2, none⟩ = some (.int .i64 j3) := Go.Joins.cell_of_block V2.out 2
        have cb3 : u2.cell? ⟨w.heap.size + 1, 3, none⟩ = some (.bool j4) := Go.Joins.cell_of_block V2.out 3
        have cb4 : u2.cell? ⟨w.heap.size + 1, 4, none⟩ = some (.bool j5) := Go.Joins.cell_of_block V2.out 4
        have cb5 : u2.cell? ⟨w.heap.size + 1, 5, none⟩ = some (.bool j6) := Go.Joins.cell_of_block V2.out 5
        have cb6 : u2.cell? ⟨w.heap.size + 1, 6, none⟩ = some (.int .i64 j7) := Go.Joins.cell_of_block V2.out 6
        have l2 : w.heap.size + 1 < u2.heap.size := blk_lt V2.out
        go_wp2_with fail
        refine (d3.out _ J2.out S2.out).mono ?_
        rintro e u3 ⟨p3, c3, rfl, hc3, hi3, hb3⟩
        have A3 : Hid (u3.heap[w.heap.size]? = some (.cells #[.int .i64 1, .int .i64 k2, .int .i64 k3, .bool k4, .bool k5, .bool k6, .int .i64 k7] 57 (0, 0))) := (hb3.block _ (blk_lt A2.out)).trans A2.out
        have B3 : Hid (Below w.heap.size w u3) := below_then B2.out hb3
        have I3 : Hid (IsL u3 (w.heap.size + 2) p2 XY) := I2.out.below hb3
        have J3 : Hid (IsL u3 (w.heap.size + 2) p3 Y1) := hi3
        have S3 : Hid ((w.heap.size + 2) ≤ u3.heap.size) := Nat.le_trans S2.out hb3.size
        have e4 : Hid _ := d4.out p3 c3 hc3
        obtain ⟨n3, hn3⟩ : ∃ n, Y1.length = n := ⟨_, rfl⟩
        rw [hn3] at e4 ⊢
        clear hc3 hi3 hb3 A2 V2 B2 J2 I2 S2 d3 d4 hn3 l2 cb0 cb1 cb2 cb3 cb4 cb5 cb6
        have ca0 : u3.cell? ⟨w.heap.size, 0, none⟩ = some (.int .i64 1) := Go.Joins.cell_of_block A3.out 0
        have ca1 : u3.cell? ⟨w.heap.size, 1, none⟩ = some (.int .i64 k2) := Go.Joins.cell_of_block A3.out 1
        have ca2 : u3.cell? ⟨w.heap.size, 2, none⟩ = some (.int .i64 k3) := Go.Joins.cell_of_block A3.out 2
        have ca3 : u3.cell? ⟨w.heap.size, 3, none⟩ = some (.bool k4) := Go.Joins.cell_of_block A3.out 3
        have ca4 : u3.cell? ⟨w.heap.size, 4, none⟩ = some (.bool k5) := Go.Joins.cell_of_block A3.out 4
        have ca5 : u3.cell? ⟨w.heap.size, 5, none⟩ = some (.bool k6) := Go.Joins.cell_of_block A3.out 5
        have ca6 : u3.cell? ⟨w.heap.size, 6, none⟩ = some (.int .i64 k7) := Go.Joins.cell_of_block A3.out 6
        have l3 : w.heap.size < u3.heap.size := blk_lt A3.out
        go_wp2_with fail
        refine (e4.out _ J3.out S3.out).mono ?_
        rintro e u4 ⟨p4, c4, rfl, hc4, hi4, hb4⟩
        have B4 : Hid (Below w.heap.size w u4) := below_then B3.out hb4
        have I4 : Hid (IsL u4 (w.heap.size + 2) p2 XY) := I3.out.below hb4
        have J4 : Hid (IsL u4 (w.heap.size + 2) p4 YX) := hi4
        obtain ⟨n4, hn4⟩ : ∃ n, YX.length = n := ⟨_, rfl⟩
        have HN4 : Hid (YX.length = n4) := hn4
        rw [hn4]
        clear hc4 hi4 hb4 A3 B3 J3 I3 S3 e4 hn4 l3 ca0 ca1 ca2 ca3 ca4 ca5 ca6
        by_cases z1 : E1 = 0
        rotate_left
        · have zb1 : (E1 != 0) = true := by simp [z1]
          clear OR LE z1
          go_wp2_with fail
          refine (AWH.out _).mono ?_
          rintro e u9 ⟨rfl, hb9⟩
          have B9 : Hid (Below w.heap.size w u9) := below_then B4.out hb9
          clear hb9
          go_wp2_with fail
          go_ret
          exact ⟨rfl, B9.out⟩
        have zb1 : (E1 != 0) = false := by simp [z1]
        have Z1 : Hid (E1 = 0) := z1
        clear z1
        by_cases z2 : E2 = 0
        rotate_left
        · have zb2 : (E2 != 0) = true := by simp [z2]
          clear OR LE z2
          go_wp2_with fail
          refine (AWH.out _).mono ?_
          rintro e u9 ⟨rfl, hb9⟩
          have B9 : Hid (Below w.heap.size w u9) := below_then B4.out hb9
          clear hb9
          go_wp2_with fail
          go_ret
          exact ⟨rfl, B9.out⟩
        have zb2 : (E2 != 0) = false := by simp [z2]
        have Z2 : Hid (E2 = 0) := z2
        clear z2
        by_cases z3 : E3 = 0
        rotate_left
        · have zb3 : (E3 != 0) = true := by simp [z3]
          clear OR LE z3
          go_wp2_with fail
          refine (AWH.out _).mono ?_
          rintro e u9 ⟨rfl, hb9⟩
          have B9 : Hid (Below w.heap.size w u9) := below_then B4.out hb9
          clear hb9
          go_wp2_with fail
          go_ret
          exact ⟨rfl, B9.out⟩
        have zb3 : (E3 != 0) = false := by simp [z3]
        have Z3 : Hid (E3 = 0) := z3
        clear z3
        by_cases z4 : E4 = 0
        rotate_left
        · have zb4 : (E4 != 0) = true := by simp [z4]
          clear OR LE z4
          go_wp2_with fail
          refine (AWH.out _).mono ?_
          rintro e u9 ⟨rfl, hb9⟩
          have B9 : Hid (Below w.heap.size w u9) := below_then B4.out hb9
          clear hb9
          go_wp2_with fail
          go_ret
          exact ⟨rfl, B9.out⟩
        have zb4 : (E4 != 0) = false := by simp [z4]
        have Z4 : Hid (E4 = 0) := z4
        clear z4
        have EQ := OR.out Z1.out Z2.out Z3.out Z4.out
        have LL := LE.out Z1.out Z2.out
        subst EQ
        have n24 : n4 = n2 := by rw [← HN4.out, ← HN2.out]
        subst n24
        have lt : decide (((nL : Int) + 2) < (n4 : Int)) = false := by simp; omega
        clear OR LE Z1 Z2 Z3 Z4 HN4
        have lb4 := LB.out
        go_wp2_with fail
        go_loopw [94] (fun x W => ∃ m : Nat, m ≤ n4 ∧ x = .int .i64 m ∧ Hid (IsL W (w.heap.size + 2) p2 XY) ∧ Hid (IsL W (w.heap.size + 2) p4 XY) ∧ Hid (Below w.heap.size w W)) (fun x _ => n4 - (intOf x).toNat)
        case atStart => exact ⟨0, by omega, rfl, I4, J4, B4⟩
        case round =>
          obtain ⟨m, hm, rfl, hI5, hJ5, hB5⟩ := hrel
          by_cases hlm : m < n4
          · have hd : decide ((m : Int) < (n4 : Int)) = true := by simp; omega
            have m0 : (0 : Int) ≤ (m : Int) := by omega
            have m1 : (m : Int) < (n4 : Int) := by omega
            obtain ⟨g, rfl, _, g2, gc⟩ := hI5.out m (by rw [HN2.out]; exact hlm)
            obtain ⟨g', rfl, _, g2', gc'⟩ := hJ5.out m (by rw [HN2.out]; exact hlm)
            generalize XY.getD m Rg.zero = rr at gc gc'
            obtain ⟨r1, r2, r3, r4, r5, r6⟩ := rr
            have y0 : wr.cell? ⟨g, m * 6, none⟩ = some (.int .i64 r1) := gc 0 _ rfl
            have y1 : wr.cell? ⟨g, m * 6 + 1, none⟩ = some (.int .i64 r2) := gc 1 _ rfl
            have y2 : wr.cell? ⟨g, m * 6 + 2, none⟩ = some (.bool r3) := gc 2 _ rfl
            have y3 : wr.cell? ⟨g, m * 6 + 3, none⟩ = some (.bool r4) := gc 3 _ rfl
            have y4 : wr.cell? ⟨g, m * 6 + 4, none⟩ = some (.bool r5) := gc 4 _ rfl
            have y5 : wr.cell? ⟨g, m * 6 + 5, none⟩ = some (.int .i64 r6) := gc 5 _ rfl
            have z0 : wr.cell? ⟨g', m * 6, none⟩ = some (.int .i64 r1) := gc' 0 _ rfl
            have z1 : wr.cell? ⟨g', m * 6 + 1, none⟩ = some (.int .i64 r2) := gc' 1 _ rfl
            have z2 : wr.cell? ⟨g', m * 6 + 2, none⟩ = some (.bool r3) := gc' 2 _ rfl
            have z3 : wr.cell? ⟨g', m * 6 + 3, none⟩ = some (.bool r4) := gc' 3 _ rfl
            have z4 : wr.cell? ⟨g', m * 6 + 4, none⟩ = some (.bool r5) := gc' 4 _ rfl
            have z5 : wr.cell? ⟨g', m * 6 + 5, none⟩ = some (.int .i64 r6) := gc' 5 _ rfl
            clear gc gc'
            go_wp2_with fail
            go_quiet (fail)
            go_wp2_with fail
            go_roundw
            case rel => exact ⟨m + 1, by omega, by go_num, IsL.drewn hI5.out, IsL.drewn hJ5.out, below_drewn hB5.out⟩
            case measure => simp [intOf]; omega
          · have hd : decide ((m : Int) < (n4 : Int)) = false := by simp; omega
            go_wp2_with fail
            refine (AWH.out _).mono ?_
            rintro e u8 ⟨rfl, hb8⟩
            have B8 : Hid (Below w.heap.size w u8) := below_then hB5.out hb8
            have I8 : Hid (IsL u8 (w.heap.size + 2) p2 XY) := hI5.out.below hb8
            clear hb8
            go_wp2_with fail
            refine (gg2.out _ I8.out).mono ?_
            rintro e u9 ⟨rfl, hb9⟩
            have B9 : Hid (Below w.heap.size w u9) := below_then B8.out hb9
            clear hb9
            go_wp2_with fail
            go_ret
            exact ⟨rfl, B9.out⟩
      · have hd : decide ((k : Int) < (n0 : Int)) = false := by simp; omega
        clear hlt hstop
        go_wp2_with fail
        generalize ((wr.setCell ⟨w.heap.size, 0, none⟩ (.int .i64 1)).setCell ⟨w.heap.size + 1, 0, none⟩ (.int .i64 1)) = u0 at IU BU AU VU SU ⊢
        clear ca0 ca1 ca2 ca3 ca4 ca5 ca6 caf0 cb0 cb1 cb2 cb3 cb4 cb5 cb6 cbf0 Xa Xb
        refine (d1.out _ IU.out SU.out).mono ?_
        rintro e u1 ⟨p1, c1, rfl, hc1, hi1, hb1⟩
        have A1 : Hid (u1.heap[w.heap.size]? = some (.cells #[.int .i64 1, .int .i64 k2, .int .i64 k3, .bool k4, .bool k5, .bool k6, .int .i64 k7] 57 (0, 0))) := (hb1.block _ (blk_lt AU.out)).trans AU.out
        have V1 : Hid (u1.heap[w.heap.size + 1]? = some (.cells #[.int .i64 1, .int .i64 j2, .int .i64 j3, .bool j4, .bool j5, .bool j6, .int .i64 j7] 57 (0, 0))) := (hb1.block _ (blk_lt VU.out)).trans VU.out
        have B1 : Hid (Below w.heap.size w u1) := below_then BU.out hb1
        have J1 : Hid (IsL u1 (w.heap.size + 2) p L) := IU.out.below hb1
        have I1 : Hid (IsL u1 (w.heap.size + 2) p1 X1) := hi1
        have S1 : Hid ((w.heap.size + 2) ≤ u1.heap.size) := Nat.le_trans SU.out hb1.size
        have e2 : Hid _ := d2.out p1 c1 hc1
        obtain ⟨n1, hn1⟩ : ∃ n, X1.length = n := ⟨_, rfl⟩
        rw [hn1] at e2 ⊢
        clear hc1 hi1 hb1 AU VU BU IU SU d1 d2 hn1
        have cb0 : u1.cell? ⟨w.heap.size + 1, 0, none⟩ = some (.int .i64 1) := Go.Joins.cell_of_block V1.out 0
        have cb1 : u1.cell? ⟨w.heap.size + 1, 1, none⟩ = some (.int .i64 j2) := Go.Joins.cell_of_block V1.out 1
        have cb2 : u1.cell? ⟨w.heap.size + 1, 2, none⟩ = some (.int .i64 j3) := Go.Joins.cell_of_block V1.out 2
        have cb3 : u1.cell? ⟨w.heap.size + 1, 3, none⟩ = some (.bool j4) := Go.Joins.cell_of_block V1.out 3
        have cb4 : u1.cell? ⟨w.heap.size + 1, 4, none⟩ = some (.bool j5) := Go.Joins.cell_of_block V1.out 4
        have cb5 : u1.cell? ⟨w.heap.size + 1, 5, none⟩ = some (.bool j6) := Go.Joins.cell_of_block V1.out 5
        have cb6 : u1.cell? ⟨w.heap.size + 1, 6, none⟩ = some (.int .i64 j7) := Go.Joins.cell_of_block V1.out 6
        have l1 : w.heap.size + 1 < u1.heap.size := blk_lt V1.out
        go_wp2_with fail
        refine (e2.out _ I1.out S1.out).mono ?_
        rintro e u2 ⟨p2, c2, rfl, hc2, hi2, hb2⟩
        have A2 : Hid (u2.heap[w.heap.size]? = some (.cells #[.int .i64 1, .int .i64 k2, .int .i64 k3, .bool k4, .bool k5, .bool k6, .int .i64 k7] 57 (0, 0))) := (hb2.block _ (blk_lt A1.out)).trans A1.out
        have V2 : Hid (u2.heap[w.heap.size + 1]? = some (.cells #[.int .i64 1, .int .i64 j2, .int .i64 j3, .bool j4, .bool j5, .bool j6, .int .i64 j7] 57 (0, 0))) := (hb2.block _ (blk_lt V1.out)).trans V1.out
        have B2 : Hid (Below w.heap.size w u2) := below_then B1.out hb2
        have J2 : Hid (IsL u2 (w.heap.size + 2) p L) := J1.out.below hb2
        have I2 : Hid (IsL u2 (w.heap.size + 2) p2 XY) := hi2
        have S2 : Hid ((w.heap.size + 2) ≤ u2.heap.size) := Nat.le_trans S1.out hb2.size
        have gg2 : Hid _ := gg.out p2 c2
        obtain ⟨n2, hn2⟩ : ∃ n, XY.length = n := ⟨_, rfl⟩
        have HN2 : Hid (XY.length = n2) := hn2
        rw [hn2] at LE LB gg2 ⊢
        clear hc2 hi2 hb2 A1 V1 B1 J1 I1 S1 e2 hn2 l1 gg cb0 cb1 cb2 cb3 cb4 cb5 cb6
        have cb0 : u2.cell? ⟨w.heap.size + 1, 0, none⟩ = some (.int .i64 1) := Go.Joins.cell_of_block V2.out 0
        have cb1 : u2.cell? ⟨w.heap.size + 1, 1, none⟩ = some (.int .i64 j2) := Go.Joins.cell_of_block V2.out 1
        have cb2 : u2.cell? ⟨w.heap.size + 1, 2, none⟩ = some (.int .i64 j3) := Go.Joins.cell_of_block V2.out 2
        have cb3 : u2.cell? ⟨w.heap.size + 1, 3, none⟩ = some (.bool j4) := Go.Joins.cell_of_block V2.out 3
        have cb4 : u2.cell? ⟨w.heap.size + 1, 4, none⟩ = some (.bool j5) := Go.Joins.cell_of_block V2.out 4
        have cb5 : u2.cell? ⟨w.heap.size + 1, 5, none⟩ = some (.bool j6) := Go.Joins.cell_of_block V2.out 5
        have cb6 : u2.cell? ⟨w.heap.size + 1, 6, none⟩ = some (.int .i64 j7) := Go.Joins.cell_of_block V2.out 6
        have l2 : w.heap.size + 1 < u2.heap.size := blk_lt V2.out
        go_wp2_with fail
        refine (d3.out _ J2.out S2.out).mono ?_
        rintro e u3 ⟨p3, c3, rfl, hc3, hi3, hb3⟩
        have A3 : Hid (u3.heap[w.heap.size]? = some (.cells #[.int .i64 1, .int .i64 k2, .int .i64 k3, .bool k4, .bool k5, .bool k6, .int .i64 k7] 57 (0, 0))) := (hb3.block _ (blk_lt A2.out)).trans A2.out
        have B3 : Hid (Below w.heap.size w u3) := below_then B2.out hb3
        have I3 : Hid (IsL u3 (w.heap.size + 2) p2 XY) := I2.out.below hb3
        have J3 : Hid (IsL u3 (w.heap.size + 2) p3 Y1) := hi3
        have S3 : Hid ((w.heap.size + 2) ≤ u3.heap.size) := Nat.le_trans S2.out hb3.size
        have e4 : Hid _ := d4.out p3 c3 hc3
        obtain ⟨n3, hn3⟩ : ∃ n, Y1.length = n := ⟨_, rfl⟩
        rw [hn3] at e4 ⊢
        clear hc3 hi3 hb3 A2 V2 B2 J2 I2 S2 d3 d4 hn3 l2 cb0 cb1 cb2 cb3 cb4 cb5 cb6
        have ca0 : u3.cell? ⟨w.heap.size, 0, none⟩ = some (.int .i64 1) := Go.Joins.cell_of_block A3.out 0
        have ca1 : u3.cell? ⟨w.heap.size, 1, none⟩ = some (.int .i64 k2) := Go.Joins.cell_of_block A3.out 1
        have ca2 : u3.cell? ⟨w.heap.size, 2, none⟩ = some (.int .i64 k3) := Go.Joins.cell_of_block A3.out 2
        have ca3 : u3.cell? ⟨w.heap.size, 3, none⟩ = some (.bool k4) := Go.Joins.cell_of_block A3.out 3
        have ca4 : u3.cell? ⟨w.heap.size, 4, none⟩ = some (.bool k5) := Go.Joins.cell_of_block A3.out 4
        have ca5 : u3.cell? ⟨w.heap.size, 5, none⟩ = some (.bool k6) := Go.Joins.cell_of_block A3.out 5
        have ca6 : u3.cell? ⟨w.heap.size, 6, none⟩ = some (.int .i64 k7) := Go.Joins.cell_of_block A3.out 6
        have l3 : w.heap.size < u3.heap.size := blk_lt A3.out
        go_wp2_with fail
        refine (e4.out _ J3.out S3.out).mono ?_
        rintro e u4 ⟨p4, c4, rfl, hc4, hi4, hb4⟩
        have B4 : Hid (Below w.heap.size w u4) := below_then B3.out hb4
        have I4 : Hid (IsL u4 (w.heap.size + 2) p2 XY) := I3.out.below hb4
        have J4 : Hid (IsL u4 (w.heap.size + 2) p4 YX) := hi4
        obtain ⟨n4, hn4⟩ : ∃ n, YX.length = n := ⟨_, rfl⟩
        have HN4 : Hid (YX.length = n4) := hn4
        rw [hn4]
        clear hc4 hi4 hb4 A3 B3 J3 I3 S3 e4 hn4 l3 ca0 ca1 ca2 ca3 ca4 ca5 ca6
        by_cases z1 : E1 = 0
        rotate_left
        · have zb1 : (E1 != 0) = true := by simp [z1]
          clear OR LE z1
          go_wp2_with fail
          refine (AWH.out _).mono ?_
          rintro e u9 ⟨rfl, hb9⟩
          have B9 : Hid (Below w.heap.size w u9) := below_then B4.out hb9
          clear hb9
          go_wp2_with fail
          go_ret
          exact ⟨rfl, B9.out⟩
        have zb1 : (E1 != 0) = false := by simp [z1]
        have Z1 : Hid (E1 = 0) := z1
        clear z1
        by_cases z2 : E2 = 0
        rotate_left
        · have zb2 : (E2 != 0) = true := by simp [z2]
          clear OR LE z2
          go_wp2_with fail
          refine (AWH.out _).mono ?_
          rintro e u9 ⟨rfl, hb9⟩
          have B9 : Hid (Below w.heap.size w u9) := below_then B4.out hb9
          clear hb9
          go_wp2_with fail
          go_ret
          exact ⟨rfl, B9.out⟩
        have zb2 : (E2 != 0) = false := by simp [z2]
        have Z2 : Hid (E2 = 0) := z2
        clear z2
        by_cases z3 : E3 = 0
        rotate_left
        · have zb3 : (E3 != 0) = true := by simp [z3]
          clear OR LE z3
          go_wp2_with fail
          refine (AWH.out _).mono ?_
          rintro e u9 ⟨rfl, hb9⟩
          have B9 : Hid (Below w.heap.size w u9) := below_then B4.out hb9
          clear hb9
          go_wp2_with fail
          go_ret
          exact ⟨rfl, B9.out⟩
        have zb3 : (E3 != 0) = false := by simp [z3]
        have Z3 : Hid (E3 = 0) := z3
        clear z3
        by_cases z4 : E4 = 0
        rotate_left
        · have zb4 : (E4 != 0) = true := by simp [z4]
          clear OR LE z4
          go_wp2_with fail
          refine (AWH.out _).mono ?_
          rintro e u9 ⟨rfl, hb9⟩
          have B9 : Hid (Below w.heap.size w u9) := below_then B4.out hb9
          clear hb9
          go_wp2_with fail
          go_ret
          exact ⟨rfl, B9.out⟩
        have zb4 : (E4 != 0) = false := by simp [z4]
        have Z4 : Hid (E4 = 0) := z4
        clear z4
        have EQ := OR.out Z1.out Z2.out Z3.out Z4.out
        have LL := LE.out Z1.out Z2.out
        subst EQ
        have n24 : n4 = n2 := by rw [← HN4.out, ← HN2.out]
        subst n24
        have lt : decide (((nL : Int) + 2) < (n4 : Int)) = false := by simp; omega
        clear OR LE Z1 Z2 Z3 Z4 HN4
        have lb4 := LB.out
        go_wp2_with fail
        go_loopw [94] (fun x W => ∃ m : Nat, m ≤ n4 ∧ x = .int .i64 m ∧ Hid (IsL W (w.heap.size + 2) p2 XY) ∧ Hid (IsL W (w.heap.size + 2) p4 XY) ∧ Hid (Below w.heap.size w W)) (fun x _ => n4 - (intOf x).toNat)
        case atStart => exact ⟨0, by omega, rfl, I4, J4, B4⟩
        case round =>
          obtain ⟨m, hm, rfl, hI5, hJ5, hB5⟩ := hrel
          by_cases hlm : m < n4
          · have hd : decide ((m : Int) < (n4 : Int)) = true := by simp; omega
            have m0 : (0 : Int) ≤ (m : Int) := by omega
            have m1 : (m : Int) < (n4 : Int) := by omega
            obtain ⟨g, rfl, _, g2, gc⟩ := hI5.out m (by rw [HN2.out]; exact hlm)
            obtain ⟨g', rfl, _, g2', gc'⟩ := hJ5.out m (by rw [HN2.out]; exact hlm)
            generalize XY.getD m Rg.zero = rr at gc gc'
            obtain ⟨r1, r2, r3, r4, r5, r6⟩ := rr
            have y0 : wr.cell? ⟨g, m * 6, none⟩ = some (.int .i64 r1) := gc 0 _ rfl
            have y1 : wr.cell? ⟨g, m * 6 + 1, none⟩ = some (.int .i64 r2) := gc 1 _ rfl
            have y2 : wr.cell? ⟨g, m * 6 + 2, none⟩ = some (.bool r3) := gc 2 _ rfl
            have y3 : wr.cell? ⟨g, m * 6 + 3, none⟩ = some (.bool r4) := gc 3 _ rfl
            have y4 : wr.cell? ⟨g, m * 6 + 4, none⟩ = some (.bool r5) := gc 4 _ rfl
            have y5 : wr.cell? ⟨g, m * 6 + 5, none⟩ = some (.int .i64 r6) := gc 5 _ rfl
            have z0 : wr.cell? ⟨g', m * 6, none⟩ = some (.int .i64 r1) := gc' 0 _ rfl
            have z1 : wr.cell? ⟨g', m * 6 + 1, none⟩ = some (.int .i64 r2) := gc' 1 _ rfl
            have z2 : wr.cell? ⟨g', m * 6 + 2, none⟩ = some (.bool r3) := gc' 2 _ rfl
            have z3 : wr.cell? ⟨g', m * 6 + 3, none⟩ = some (.bool r4) := gc' 3 _ rfl
            have z4 : wr.cell? ⟨g', m * 6 + 4, none⟩ = some (.bool r5) := gc' 4 _ rfl
            have z5 : wr.cell? ⟨g', m * 6 + 5, none⟩ = some (.int .i64 r6) := gc' 5 _ rfl
            clear gc gc'
            go_wp2_with fail
            go_quiet (fail)
            go_wp2_with fail
            go_roundw
            case rel => exact ⟨m + 1, by omega, by go_num, IsL.drewn hI5.out, IsL.drewn hJ5.out, below_drewn hB5.out⟩
            case measure => simp [intOf]; omega
          · have hd : decide ((m : Int) < (n4 : Int)) = false := by simp; omega
            go_wp2_with fail
            refine (AWH.out _).mono ?_
            rintro e u8 ⟨rfl, hb8⟩
            have B8 : Hid (Below w.heap.size w u8) := below_then hB5.out hb8
            have I8 : Hid (IsL u8 (w.heap.size + 2) p2 XY) := hI5.out.below hb8
            clear hb8
            go_wp2_with fail
            refine (gg2.out _ I8.out).mono ?_
            rintro e u9 ⟨rfl, hb9⟩
            have B9 : Hid (Below w.heap.size w u9) := below_then B8.out hb9
            clear hb9
            go_wp2_with fail
            go_ret
            exact ⟨rfl, B9.out⟩

theorem own : ownKnob Try.prog.godebug = none := by kernel_rfl
theorem laidOut : laidOutB Try.prog = true := by kernel_rfl
set_option maxRecDepth 100000 in
theorem lifted (os : Os) (started : os.Started) (H : Type) (enc : TypeId × Value → H) :
    ReturnsInHanded {} Try.checked os 7 .any (Rows.regionOrderSpec.pre6 enc Try.prog Try.f7 Rows.regionOrderRow.domain false) (Rows.regionOrderSpec.post enc Try.prog Try.f7 false true false false) := by
  refine returnsInHanded_of_change (C := Try.checked) own started (by kernel_rfl) Try.func7
    (ChangeSpec.witness6 (enc := enc) (C := Try.checked) false ⟨#[], #[.slice none 0 0, .agg #[.int .i64 0, .int .i64 0, .int .i64 0, .bool false, .bool false, .bool false, .int .i64 0], .agg #[.int .i64 0, .int .i64 0, .int .i64 0, .bool false, .bool false, .bool false, .int .i64 0]], []⟩ 8 (by kernel_rfl) (by kernel_rfl) (by kernel_rfl) (by kernel_rfl)) ?_
  intro W base args ds gs before hval0 hW hcnd _
  have hval : ∀ (j : Nat) t v, Try.f7.params[j]? = some t → args[j]? = some v → Value.okWide Try.prog W .any base t v := hval0
  have hW' := hW
  obtain ⟨p, q, hA0, hV, hbef, hfz, hnd⟩ := hW
  have hA : DataW.TrodAll enc Try.prog W 0 (fun _ => true) true Try.f7.params.toList args.toList ds p := hA0
  have hAk := hA
  have hlt : ∀ x ∈ p, x.block < W.heap.size := fun x hx => hW'.lt x (by rw [hbef]; exact List.mem_append_left _ hx)
  rw [Try.params7] at hA hval
  obtain ⟨v0, vs0, d0, ds0, p0, q0, hargs, rfl, hp0, h0, r0⟩ := trodAll_cons hA
  obtain ⟨v1, vs1, d1, ds1, p1, q1, rfl, rfl, hp1, h1, r1⟩ := trodAll_cons r0
  obtain ⟨v2, vs2, d2, ds2, p2, q2, rfl, rfl, hp2, h2, r2⟩ := trodAll_cons r1
  obtain ⟨rfl, rfl, hpz⟩ := trodAll_nil r2
  obtain rfl : args = #[v0, v1, v2] := by cases args; simp_all
  obtain ⟨rfl, rfl⟩ := trodVars_none hV
  obtain ⟨p0, n0, c0, A0, rfl, m0, H0⟩ := open_acts (hval 0 55 v0 rfl rfl) h0
  obtain ⟨a1, rfl, w1f, w1t⟩ := open_act (hval 1 57 v1 rfl rfl) h1
  obtain ⟨a2, rfl, w2f, w2t⟩ := open_act (hval 2 57 v2 rfl rfl) h2
  clear hA0 hval0
  refine (walk p0 n0 c0 A0 m0 a1 w1f w1t a2 w2f w2t W H0).mono fun e W' ⟨he, hg⟩ => ?_
  subst he
  exact ⟨_, rfl, ⟨_, _, _, [], p, [], hW', (trodAll_cons_mk (shut_bool Try.underlying4 _) trodAll_mk0), args_stay laidOut hg (by kernel_rfl) hAk hlt, rfl, hg.frame _, fun h => by cases h⟩⟩

theorem over : Rows.regionOrderRow.holds Try.pinned (OpenSpec.ofChange Rows.regionOrderSpec) :=
  OpenClaim.holds_of_wide 7 Try.f7 rfl rfl rfl rfl rfl rfl rfl ⟨rfl, rfl, rfl, rfl, rfl⟩ rfl rfl rfl rfl rfl (by kernel_rfl) Try.func7 (by kernel_rfl)
    (of_decide_eq_true (by kernel_rfl)) (by unfold Func.isWrapper; first | (rw [if_pos (by decide +kernel)]; kernel_rfl) | (rw [if_neg (by decide +kernel)]; exact ⟨rfl, rfl⟩))
    (fun os started H enc _ => lifted os started H enc)

theorem proved : Rows.RegionOrderSaid :=
  over
#print axioms proved
end Go.Proofs.Ytngaodfajihmmaa.regionOrder
