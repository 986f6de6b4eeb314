/- For any changes and any change: behind any 30 changes, pages that are added and cut again leave the list as it was, the list that was handed in stays, and as many pages are counted as were added; no condition. -/
import Derived.Test.YtngaodfajihmmaaRows
import Derived.ProofKit
import Derived.OpenShut
import Derived.Carry
import Derived.Test.YtngaodfajihmmaaG14
import Derived.Deep.QuietTactic
import Derived.BigQuiet
namespace Go.Proofs.Ytngaodfajihmmaa.regionBack
open Go.ChangeShapes Go.WideShapes Go.ChangeAt Go.RowKit Go.Maps
set_option linter.unusedSimpArgs false
set_option linter.unusedVariables false
theorem IsL.sc {base b o : Nat} {X : World} {v : Value} {p : Option Addr} {B : List Rg} (h : IsL X base p B) (hb : b < base) : IsL (X.setCell ⟨b, o, none⟩ v) base p B := fun i hi => by
  obtain ⟨g, e, l1, l2, c⟩ := h i hi
  exact ⟨g, e, l1, by rw [World.size_setCell]; exact l2, fun j x hx => (World.cell?_of_block (w := X) (a := ⟨g, i * 6 + j, none⟩) (Below.heap_setCell _ _ _ _ (by show g ≠ b; omega))).trans (c j x hx)⟩
theorem IsL.drewn {base m : Nat} {X : World} {p : Option Addr} {B : List Rg} (h : IsL X base p B) : IsL (X.drewN m) base p B := h
theorem below_drewn {n m : Nat} {w X : World} (h : Below n w X) : Below n w (X.drewN m) := ⟨h.os, h.tape, h.output, h.size, h.block⟩
theorem app_none (t ty : TypeId) (i : TypeInfo) (z : Value) (e : TypeId) (ht : Try.prog.underlying t = some (.slice e)) (hi : Try.prog.info? e = some i) (hz : i.zero = some z) (w : World) (a : Addr) (c : Nat) : (Builtin.append_ #[t, t] ty #[.slice (some a) 0 0, .slice none 0 c]).run Try.prog w = .ok (.slice (some a) 0 0) w := by
  simp [Builtin.append_, run_underlying ht, sizeOf, typeInfo, zeroValue, hi, hz, Builtin.lenOf, Builtin.firstCells, storeCells]
theorem flat_len : ∀ (L : List Rg), (L.flatMap Rg.enc).length = L.length * 6
  | [] => rfl
  | l :: r => by rw [List.flatMap_cons, List.length_append, renc_len, flat_len r, List.length_cons]; omega
theorem rg_cells {w : World} {base : Nat} {a : Addr} {B : List Rg} (h : IsL w base (some a) B) : ∀ j u, (B.flatMap Rg.enc)[j]? = some u → w.cell? (a.add j) = some u := by
  intro j u hu
  have hj : j < B.length * 6 := by rw [← flat_len]; exact (List.getElem?_eq_some_iff.1 hu).1
  obtain ⟨g, e, _, _, c⟩ := h (j / 6) (by omega)
  cases e
  rw [Addr.add_mid, Nat.zero_add]
  have e2 : j = j / 6 * 6 + j % 6 := by omega
  rw [e2, flatR_enc B (j / 6) (j % 6) (by omega) (by omega)] at hu
  rw [e2]
  exact c _ _ hu
theorem rg_one (B : List Rg) : ∀ u ∈ B.flatMap Rg.enc, u.oneCell' = true := by
  intro u hu
  rw [List.mem_flatMap] at hu
  obtain ⟨b, _, hb⟩ := hu
  unfold Rg.enc at hb
  simp at hb
  rcases hb with rfl | rfl | rfl | rfl | rfl | rfl <;> rfl
theorem start_own (w : World) : (w.alloc (.cells #[] 37)).ownsRow w.heap.size 37 6 (.slice (some ⟨w.heap.size, 0, none⟩) 0 0) 0 [] := ⟨rfl, Or.inr ⟨w.heap.size, 0, #[], rfl, Nat.le_refl _, own1 w _, by simp, by simp, rfl, rfl⟩⟩

set_option maxRecDepth 8000 in
set_option maxHeartbeats 16000000 in
theorem walk (p0 : Option Addr) (n0 c0 : Nat) (A0 : Nat → Ac) (m0 : n0 ≤ maxLen) (a1 : Ac) (w1f : -9223372036854775808 ≤ a1.fr ∧ a1.fr ≤ 9223372036854775807) (w1t : -9223372036854775808 ≤ a1.til ∧ a1.til ≤ 9223372036854775807) (w : World) (H0 : IsActs w p0 n0 A0) :
    Calls Try.prog 6 #[.slice p0 n0 c0, a1.val] w fun e w' => e = .returned (.bool true) ∧ Below w.heap.size w w' := by
  have AWH : Hid (∀ W : World, Calls Try.prog 16 #[] W fun e w' => e = .returned (.bool true) ∧ Below W.heap.size W w') := fun W => awake_any W
  have DC : Hid (∀ (L : List Rg), goodB L = true → ∀ (p : Option Addr) (c : Nat), L.length ≤ c → ∀ (a : Ac) (W : World), IsL W (w.heap.size + 1) p L → (w.heap.size + 1) ≤ W.heap.size → Calls Try.prog 25 #[.slice p L.length c, a.val] W fun e w' => ∃ p' c', e = .returned (.tuple #[.slice p' (actL L a).length c', .int .i64 (actE L a)]) ∧ (actL L a).length ≤ c' ∧ IsL w' (w.heap.size + 1) p' (actL L a) ∧ Below W.heap.size W w') := fun L g p c hc a W h hw => does_b (w.heap.size + 1) p c L (by have := (good_can g).2.2; omega) hc a W h hw
  have GC : Hid (∀ (L : List Rg), goodB L = true → ∀ (p : Option Addr) (c : Nat) (W : World), IsL W (w.heap.size + 1) p L → Calls Try.prog 21 #[.slice p L.length c] W fun e w' => e = .returned (.bool true) ∧ Below W.heap.size W w') := fun L g p c W h => by
    have := good_any (w.heap.size + 1) p c L (by have := (good_can g).2.2; omega) W h
    rw [g] at this; exact this
  have HA : Hid (IsActs w p0 n0 A0) := H0
  clear H0
  have mm : (n0 : Int) ≤ 9223372036854775807 := by have : maxLen ≤ 9223372036854775807 := by decide +kernel
                                                   omega
  clear GC
  obtain ⟨i0, hi, hz0, hz1, hz2⟩ := info5 rg_info5
  obtain ⟨k1, k2, k3, k4, k5, k6, k7⟩ := a1
  have CN : Hid (∀ (L : List Rg), goodB L = true → ∀ (p : Option Addr) (c : Nat) (f t : Int) (W : World), IsL W (w.heap.size + 1) p L → Calls Try.prog 23 #[.slice p L.length c, .agg #[.int .i64 f, .int .i64 t]] W fun e w' => e = .returned (.int .i64 (cntR f t L)) ∧ Below W.heap.size W w') := fun L g p c f t W h => count_any (w.heap.size + 1) p c L (by have := (good_can g).2.2; omega) (good_num g) f t W h
  go_enter Try.func6, Try.ntmps6
  go_wp2_with fail
  go_loopw [5, 6] (fun l x W => ∃ (k : Nat) (L : List Rg) (p : Option Addr) (c : Nat), k ≤ n0 ∧ k ≤ 30 ∧ l = .slice p L.length c ∧ x = .int .i64 k ∧ Hid (goodB L = true) ∧ Hid (L.length ≤ c) ∧ Hid (IsL W (w.heap.size + 1) p L) ∧ Hid (Below w.heap.size w W) ∧ Hid (W.heap[w.heap.size]? = some (.cells #[.int .i64 k1, .int .i64 k2, .int .i64 k3, .bool k4, .bool k5, .bool k6, .int .i64 k7] 57 (0, 0)))) (fun _ x _ => 30 - (intOf x).toNat)
  case atStart => exact ⟨0, [], none, 0, by omega, by omega, rfl, rfl, rfl, Nat.le_refl _, nil_isb _ _, Go.Joins.below_alloc1 _ _, own1 w _⟩
  case round =>
    obtain ⟨k, L, p, c, hk, hk3, rfl, rfl, hG, hC, hI, hB, Xa⟩ := hrel
    have lw : w.heap.size < wr.heap.size := blk_lt Xa.out
    have lbb : (w.heap.size + 1) ≤ wr.heap.size := by have := blk_lt Xa.out; omega
    by_cases hlt : k < n0 ∧ k < 30
    · have hd : decide ((k : Int) < (n0 : Int)) = true := by simp; omega
      have hd2 : decide ((k : Int) < 30) = true := by simp; omega
      obtain ⟨b, o, rfl, lb, cc, _, _⟩ := HA.out k hlt.1
      generalize A0 k = a at cc
      have GD : Hid (goodB (actL L a) = true) := act_good hG.out a
      have D1 : Hid _ := DC.out L hG.out p c hC.out a
      generalize actE L a = E at D1
      generalize actL L a = L2 at GD D1
      obtain ⟨h1, h2, h3, h4, h5, h6, h7⟩ := a
      have y0 : wr.cell? ⟨b, o + k * 7, none⟩ = some (.int .i64 h1) := (hB.out.cell (p := ⟨b, _, none⟩) lb).trans (cc 0 _ rfl)
      have y1 : wr.cell? ⟨b, o + k * 7 + 1, none⟩ = some (.int .i64 h2) := (hB.out.cell (p := ⟨b, _, none⟩) lb).trans (cc 1 _ rfl)
      have y2 : wr.cell? ⟨b, o + k * 7 + 2, none⟩ = some (.int .i64 h3) := (hB.out.cell (p := ⟨b, _, none⟩) lb).trans (cc 2 _ rfl)
      have y3 : wr.cell? ⟨b, o + k * 7 + 3, none⟩ = some (.bool h4) := (hB.out.cell (p := ⟨b, _, none⟩) lb).trans (cc 3 _ rfl)
      have y4 : wr.cell? ⟨b, o + k * 7 + 4, none⟩ = some (.bool h5) := (hB.out.cell (p := ⟨b, _, none⟩) lb).trans (cc 4 _ rfl)
      have y5 : wr.cell? ⟨b, o + k * 7 + 5, none⟩ = some (.bool h6) := (hB.out.cell (p := ⟨b, _, none⟩) lb).trans (cc 5 _ rfl)
      have y6 : wr.cell? ⟨b, o + k * 7 + 6, none⟩ = some (.int .i64 h7) := (hB.out.cell (p := ⟨b, _, none⟩) lb).trans (cc 6 _ rfl)
      clear cc
      have lbw : b < wr.heap.size := Nat.lt_of_lt_of_le lb hB.out.size
      generalize hLn : L.length = nL at D1 ⊢
      go_wp2_with fail
      refine (D1.out _ hI.out lbb).mono ?_
      rintro e u1 ⟨p1, c1, rfl, hc1, hi1, hb1⟩
      have B1 : Hid (Below w.heap.size w u1) := below_then hB.out hb1
      have I1 : Hid (IsL u1 (w.heap.size + 1) p1 L2) := hi1
      have Cc : Hid (L2.length ≤ c1) := hc1
      have Ya : Hid (u1.heap[w.heap.size]? = some (.cells #[.int .i64 k1, .int .i64 k2, .int .i64 k3, .bool k4, .bool k5, .bool k6, .int .i64 k7] 57 (0, 0))) := (hb1.block _ (blk_lt Xa.out)).trans Xa.out
      clear hb1 hi1 hc1
      obtain ⟨nL2, hn2⟩ : ∃ n, L2.length = n := ⟨_, rfl⟩
      rw [hn2]
      have HN2 : Hid (L2.length = nL2) := hn2
      clear hn2
      go_wp2_with fail
      go_roundw
      case rel => exact ⟨k + 1, L2, p1, c1, by omega, by omega, by rw [HN2.out], by go_num, GD, Cc, I1, B1, Ya⟩
      case measure => simp [intOf]; omega
    · clear HA
      have LG : L.length ≤ 64 := (good_can hG.out).2.2
      have ga : Hid (goodB (actL L (⟨1, k2, k3, k4, k5, k6, k7⟩ : Ac)) = true) := act_good hG.out _
      have d1 : Hid _ := DC.out L hG.out p c hC.out (⟨1, k2, k3, k4, k5, k6, k7⟩ : Ac)
      have BK : Hid (actE L (⟨1, k2, k3, k4, k5, k6, k7⟩ : Ac) = 0 → errA (checkN (actL L (⟨1, k2, k3, k4, k5, k6, k7⟩ : Ac)) k2 k3) (chg (fun _ => Rg.zero) k2 k3 (actL L (⟨1, k2, k3, k4, k5, k6, k7⟩ : Ac))) = 0 ∧ outL (checkN (actL L (⟨1, k2, k3, k4, k5, k6, k7⟩ : Ac)) k2 k3) (chg (fun _ => Rg.zero) k2 k3 (actL L (⟨1, k2, k3, k4, k5, k6, k7⟩ : Ac))) = L ∧ cntR k2 k3 (actL L (⟨1, k2, k3, k4, k5, k6, k7⟩ : Ac)) = k3 - k2) := fun q => back hG.out (a := (⟨1, k2, k3, k4, k5, k6, k7⟩ : Ac)) rfl q
      have RT : Hid (actE L (⟨1, k2, k3, k4, k5, k6, k7⟩ : Ac) = 0 → 0 ≤ k2 ∧ k2 < k3 ∧ k3 ≤ 34359738368) := fun q => by have := right_is (act_cases q).1; exact ⟨this.1, this.2.1, this.2.2.1⟩
      have LX : Hid ((actL L (⟨1, k2, k3, k4, k5, k6, k7⟩ : Ac)).length ≤ 64) := (good_can ga.out).2.2
      have cn : Hid _ := fun (p' : Option Addr) (c' : Nat) => CN.out (actL L (⟨1, k2, k3, k4, k5, k6, k7⟩ : Ac)) ga.out p' c' k2 k3
      generalize actE L (⟨1, k2, k3, k4, k5, k6, k7⟩ : Ac) = E1 at d1 BK RT
      generalize actL L (⟨1, k2, k3, k4, k5, k6, k7⟩ : Ac) = X at d1 BK ga LX cn
      clear DC CN
      obtain ⟨nL, hnL⟩ : ∃ n, L.length = n := ⟨_, rfl⟩
      have HNL : Hid (L.length = nL) := hnL
      rw [hnL] at d1 LG ⊢
      clear hnL
      by_cases hq : k < n0
      · have hd : decide ((k : Int) < (n0 : Int)) = true := by simp; omega
        have hd2 : decide ((k : Int) < 30) = false := by simp; omega
        clear hlt
        cases p with
        | none =>
          have nb : L = [] := by
            have hI' := hI.out
            cases L with
            | nil => rfl
            | cons x r => obtain ⟨q, e, _⟩ := hI' 0 (by simp); cases e
          have n0' : nL = 0 := by rw [← HNL.out, nb]; rfl
          subst n0'
          have hap : ∀ ty, (Builtin.append_ #[23, 23] ty #[.slice (some ⟨wr.heap.size, 0, none⟩) 0 0, .slice none 0 c]).run Try.prog (wr.alloc (.cells #[] 37)) = .ok (.slice (some ⟨wr.heap.size, 0, none⟩) 0 0) (wr.alloc (.cells #[] 37)) := fun ty => app_none 23 ty i0 zrg 37 Try.underlying23 hi hz0 _ _ _
          have IU : Hid (IsL ((wr.setCell ⟨w.heap.size, 0, none⟩ (.int .i64 1)).alloc (.cells #[] 37)) (w.heap.size + 1) none L) := by show IsL _ _ _ _; rw [nb]; exact nil_isb _ _
          have NU : Hid (IsL ((wr.setCell ⟨w.heap.size, 0, none⟩ (.int .i64 1)).alloc (.cells #[] 37)) (w.heap.size + 1) (some ⟨wr.heap.size, 0, none⟩) L) := by show IsL _ _ _ _; rw [nb]; exact fun i hi => absurd hi (Nat.not_lt_zero _)
          have BU : Hid (Below w.heap.size w ((wr.setCell ⟨w.heap.size, 0, none⟩ (.int .i64 1)).alloc (.cells #[] 37))) := below_new (hB.out.setCell (Nat.le_refl _) _) _
          have AU : Hid (((wr.setCell ⟨w.heap.size, 0, none⟩ (.int .i64 1)).alloc (.cells #[] 37)).heap[w.heap.size]? = some (.cells #[.int .i64 1, .int .i64 k2, .int .i64 k3, .bool k4, .bool k5, .bool k6, .int .i64 k7] 57 (0, 0))) := ((Go.Joins.below_alloc1 _ _).block _ (by rw [World.size_setCell]; omega)).trans (Go.Joins.block_setCell Xa.out _)
          have SU : Hid ((w.heap.size + 1) ≤ ((wr.setCell ⟨w.heap.size, 0, none⟩ (.int .i64 1)).alloc (.cells #[] 37)).heap.size) := by show _ ≤ _; rw [World.size_alloc, World.size_setCell]; omega
          have ca0 : wr.cell? ⟨w.heap.size, 0, none⟩ = some (.int .i64 k1) := Go.Joins.cell_of_block Xa.out 0
          have ca1 : wr.cell? ⟨w.heap.size, 1, none⟩ = some (.int .i64 k2) := Go.Joins.cell_of_block Xa.out 1
          have ca2 : wr.cell? ⟨w.heap.size, 2, none⟩ = some (.int .i64 k3) := Go.Joins.cell_of_block Xa.out 2
          have ca3 : wr.cell? ⟨w.heap.size, 3, none⟩ = some (.bool k4) := Go.Joins.cell_of_block Xa.out 3
          have ca4 : wr.cell? ⟨w.heap.size, 4, none⟩ = some (.bool k5) := Go.Joins.cell_of_block Xa.out 4
          have ca5 : wr.cell? ⟨w.heap.size, 5, none⟩ = some (.bool k6) := Go.Joins.cell_of_block Xa.out 5
          have ca6 : wr.cell? ⟨w.heap.size, 6, none⟩ = some (.int .i64 k7) := Go.Joins.cell_of_block Xa.out 6
          have caf0 : wr.frozen? ⟨w.heap.size, 0, none⟩ = false := Go.Joins.unfrozen_of_block Xa.out 0
          go_wp2_with fail
          generalize ((wr.setCell ⟨w.heap.size, 0, none⟩ (.int .i64 1)).alloc (.cells #[] 37)) = u0 at IU NU BU AU SU ⊢
          generalize wr.heap.size = q at NU ⊢
          clear ca0 ca1 ca2 ca3 ca4 ca5 ca6 caf0 Xa hap
          refine (d1.out _ IU.out SU.out).mono ?_
          rintro e u1 ⟨p1, c1, rfl, hc1, hi1, hb1⟩
          have A1 : Hid (u1.heap[w.heap.size]? = some (.cells #[.int .i64 1, .int .i64 k2, .int .i64 k3, .bool k4, .bool k5, .bool k6, .int .i64 k7] 57 (0, 0))) := (hb1.block _ (blk_lt AU.out)).trans AU.out
          have B1 : Hid (Below w.heap.size w u1) := below_then BU.out hb1
          have J1 : Hid (IsL u1 (w.heap.size + 1) none L) := IU.out.below hb1
          have N1 : Hid (IsL u1 (w.heap.size + 1) (some ⟨q, 0, none⟩) L) := NU.out.below hb1
          have I1 : Hid (IsL u1 (w.heap.size + 1) p1 X) := hi1
          have S1 : Hid ((w.heap.size + 1) ≤ u1.heap.size) := Nat.le_trans SU.out hb1.size
          have cn2 : Hid _ := cn.out p1 c1
          clear hc1 hi1 hb1 AU BU IU NU SU d1 cn
          by_cases z1 : E1 = 0
          rotate_left
          · have zb : (E1 != 0) = true := by simp [z1]
            clear z1 BK RT
            generalize X.length = nX
            go_wp2_with fail
            refine (AWH.out _).mono ?_
            rintro e u9 ⟨rfl, hb9⟩
            have B9 : Hid (Below w.heap.size w u9) := below_then B1.out hb9
            clear hb9
            go_wp2_with fail
            go_ret
            exact ⟨rfl, B9.out⟩
          have zb : (E1 != 0) = false := by simp [z1]
          obtain ⟨b1, b2, b3⟩ := BK.out z1
          obtain ⟨r1', r2', r3'⟩ := RT.out z1
          have d2 : Hid (∀ W : World, IsL W (w.heap.size + 1) p1 X → (w.heap.size + 1) ≤ W.heap.size → Calls Try.prog 13 #[.slice p1 X.length c1, .agg #[.int .i64 k2, .int .i64 k3]] W fun e w' => ∃ p' c', e = .returned (.tuple #[.slice p' L.length c', .int .i64 0]) ∧ L.length ≤ c' ∧ IsL w' (w.heap.size + 1) p' L ∧ Below W.heap.size W w') := fun W h hw => cut_outb (w.heap.size + 1) p1 c1 X (by have := LX.out; omega) k2 k3 0 L b1 b2 W h hw
          rw [b3] at cn2
          rw [HNL.out] at d2
          have lxx := LX.out
          obtain ⟨nX, hnX⟩ : ∃ n, X.length = n := ⟨_, rfl⟩
          rw [hnX] at d2 cn2 lxx ⊢
          have Z1 : Hid (E1 = 0) := z1
          clear hnX b1 b2 b3 BK RT z1
          have ca0 : u1.cell? ⟨w.heap.size, 0, none⟩ = some (.int .i64 1) := Go.Joins.cell_of_block A1.out 0
          have ca1 : u1.cell? ⟨w.heap.size, 1, none⟩ = some (.int .i64 k2) := Go.Joins.cell_of_block A1.out 1
          have ca2 : u1.cell? ⟨w.heap.size, 2, none⟩ = some (.int .i64 k3) := Go.Joins.cell_of_block A1.out 2
          have ca3 : u1.cell? ⟨w.heap.size, 3, none⟩ = some (.bool k4) := Go.Joins.cell_of_block A1.out 3
          have ca4 : u1.cell? ⟨w.heap.size, 4, none⟩ = some (.bool k5) := Go.Joins.cell_of_block A1.out 4
          have ca5 : u1.cell? ⟨w.heap.size, 5, none⟩ = some (.bool k6) := Go.Joins.cell_of_block A1.out 5
          have ca6 : u1.cell? ⟨w.heap.size, 6, none⟩ = some (.int .i64 k7) := Go.Joins.cell_of_block A1.out 6
          have l1 : w.heap.size < u1.heap.size := blk_lt A1.out
          go_wp2_with fail
          refine (d2.out _ I1.out S1.out).mono ?_
          rintro e u2 ⟨p2, c2, rfl, hc2, hi2, hb2⟩
          have AX : Hid (u2.heap[w.heap.size]? = some (.cells #[.int .i64 1, .int .i64 k2, .int .i64 k3, .bool k4, .bool k5, .bool k6, .int .i64 k7] 57 (0, 0))) := (hb2.block _ (blk_lt A1.out)).trans A1.out
          have B2 : Hid (Below w.heap.size w u2) := below_then B1.out hb2
          have J2 : Hid (IsL u2 (w.heap.size + 1) none L) := J1.out.below hb2
          have N2 : Hid (IsL u2 (w.heap.size + 1) (some ⟨q, 0, none⟩) L) := N1.out.below hb2
          have I2 : Hid (IsL u2 (w.heap.size + 1) p1 X) := I1.out.below hb2
          have K2 : Hid (IsL u2 (w.heap.size + 1) p2 L) := hi2
          clear hc2 hi2 hb2 A1 B1 J1 N1 I1 S1 d2 l1 ca0 ca1 ca2 ca3 ca4 ca5 ca6
          go_wp2_with fail
          refine wp_loop_rounds 1 ?_
          rw [rounds_succ]
          go_wp2_with fail
          have x1 : u2.cell? ⟨w.heap.size, 1, none⟩ = some (.int .i64 k2) := Go.Joins.cell_of_block AX.out 1
          have x2 : u2.cell? ⟨w.heap.size, 2, none⟩ = some (.int .i64 k3) := Go.Joins.cell_of_block AX.out 2
          refine wp_region_noPanic ?_
          refine wp_region_held_drew (S := fun c => c.cell? ⟨w.heap.size, 1, none⟩ = some (.int .i64 k2) ∧ c.cell? ⟨w.heap.size, 2, none⟩ = some (.int .i64 k3)) (by kernel_rfl) ?_ (fun hHeld => ?_)
          · exact ⟨x1, x2⟩
          have BD : Hid (Below w.heap.size w u2.drew) := below_drewn (m := 1) B2.out
          have ID : Hid (IsL u2.drew (w.heap.size + 1) p1 X) := I2.out
          have XD : Hid (u2.drew.cell? ⟨w.heap.size, 1, none⟩ = some (.int .i64 k2) ∧ u2.drew.cell? ⟨w.heap.size, 2, none⟩ = some (.int .i64 k3) ∧ w.heap.size < u2.drew.heap.size) := ⟨x1, x2, blk_lt AX.out⟩
          clear x1 x2 AX B2 I2
          generalize u2.drew = U at BD ID XD hHeld ⊢
          refine wpAnyH_ready (rs := [0]) (by kernel_rfl) (by simp) ?_
          refine AllReadyH.cons (o := ⟨some 100, _, _, _, _, none⟩) rfl (fun K hK => ?_) AllReadyH.nil
          go_simp
          go_wp2_with (go_at_call 16; refine (AWH.out _).mono ?_; rintro e u8 ⟨rfl, hb8⟩)
          obtain ⟨y1, y2, ly⟩ := XD.out
          have B8 : Hid (Below w.heap.size w u8) := below_then BD.out hb8
          have I8 : Hid (IsL u8 (w.heap.size + 1) p1 X) := ID.out.below hb8
          have v1 : u8.cell? ⟨w.heap.size, 1, none⟩ = some (.int .i64 k2) := (hb8.cell (p := ⟨w.heap.size, 1, none⟩) ly).trans y1
          have v2 : u8.cell? ⟨w.heap.size, 2, none⟩ = some (.int .i64 k3) := (hb8.cell (p := ⟨w.heap.size, 2, none⟩) ly).trans y2
          have l8 : w.heap.size < u8.heap.size := Nat.lt_of_lt_of_le ly hb8.size
          clear hb8 y1 y2 ly XD BD ID hHeld
          refine hK.out _ _ ⟨v1, v2⟩ (fun hHeld => ?_)
          clear hK K
          try simp only [Act.put, List.setIfInBounds_toArray, List.set_cons_zero, List.set_cons_succ]
          refine wpAnyH_take (i := 1) (oi := ⟨some 101, _, _, _, _, none⟩) (v := ?_) rfl (by kernel_rfl) (by kernel_rfl) (by kernel_rfl) (fun _ _ _ h => h) (Or.inl ⟨by rfl, ?_⟩) (by assumption) ?_
          rotate_left
          · intro w hSw; (try dsimp only at hSw); go_simp; (try with_reducible rfl)
          try simp only [Act.put, List.setIfInBounds_toArray, List.set_cons_zero, List.set_cons_succ]
          refine wpAnyH_take (i := 2) (oi := ⟨some 102, _, _, _, _, some (1, true)⟩) (v := ?_) rfl (by kernel_rfl) (by kernel_rfl) (by kernel_rfl) (fun _ _ _ h => h) (Or.inl ⟨by rfl, ?_⟩) (by assumption) ?_
          rotate_left
          · intro w hSw; (try dsimp only at hSw); go_simp; (try with_reducible rfl)
          try simp only [Act.put, List.setIfInBounds_toArray, List.set_cons_zero, List.set_cons_succ]
          refine wpAnyH_take (i := 3) (oi := ⟨some 103, _, _, _, _, some (1, true)⟩) (v := ?_) rfl (by kernel_rfl) (by kernel_rfl) (by kernel_rfl) (fun _ _ _ h => h) (Or.inl ⟨by rfl, ?_⟩) (by assumption) ?_
          rotate_left
          · intro w hSw; (try dsimp only at hSw); go_simp; (try with_reducible rfl)
          try simp only [Act.put, List.setIfInBounds_toArray, List.set_cons_zero, List.set_cons_succ]
          refine wpAnyH_take (i := 4) (oi := ⟨some 104, _, _, _, _, some (1, true)⟩) (v := ?_) rfl (by kernel_rfl) (by kernel_rfl) (by kernel_rfl) (fun _ _ _ h => h) (Or.inl ⟨by rfl, ?_⟩) (by assumption) ?_
          rotate_left
          · intro w hSw; (try dsimp only at hSw); go_simp; (try with_reducible rfl)
          try simp only [Act.put, List.setIfInBounds_toArray, List.set_cons_zero, List.set_cons_succ]
          refine wpAnyH_take (i := 5) (oi := ⟨some 105, _, _, _, _, some (1, true)⟩) (v := ?_) rfl (by kernel_rfl) (by kernel_rfl) (by kernel_rfl) (fun _ _ _ h => h) (Or.inl ⟨by rfl, ?_⟩) (by assumption) ?_
          rotate_left
          · intro w hSw; (try dsimp only at hSw); go_simp; (try with_reducible rfl)
          try simp only [Act.put, List.setIfInBounds_toArray, List.set_cons_zero, List.set_cons_succ]
          refine wpAnyH_take (i := 6) (oi := ⟨some 106, _, _, _, _, some (1, true)⟩) (v := ?_) rfl (by kernel_rfl) (by kernel_rfl) (by kernel_rfl) (fun _ _ _ h => h) (Or.inl ⟨by rfl, ?_⟩) (by assumption) ?_
          rotate_left
          · intro w hSw; (try dsimp only at hSw); go_simp; (try with_reducible rfl)
          try simp only [Act.put, List.setIfInBounds_toArray, List.set_cons_zero, List.set_cons_succ]
          refine wpAnyH_take (i := 7) (oi := ⟨some 107, _, _, _, _, some (1, true)⟩) (v := ?_) rfl (by kernel_rfl) (by kernel_rfl) (by kernel_rfl) (fun _ _ _ h => h) (Or.inl ⟨by rfl, ?_⟩) (by assumption) ?_
          rotate_left
          · intro w hSw; (try dsimp only at hSw); go_simp; (try with_reducible rfl)
          try simp only [Act.put, List.setIfInBounds_toArray, List.set_cons_zero, List.set_cons_succ]
          refine wpAnyH_take (i := 9) (oi := ⟨some 109, _, _, _, _, some (1, true)⟩) (v := ?_) rfl (by kernel_rfl) (by kernel_rfl) (by kernel_rfl) (fun _ _ _ h => h) (Or.inl ⟨by rfl, ?_⟩) (by assumption) ?_
          rotate_left
          · intro w hSw; (try dsimp only at hSw); go_simp; (try with_reducible rfl)
          try simp only [Act.put, List.setIfInBounds_toArray, List.set_cons_zero, List.set_cons_succ]
          refine wpAnyH_take (i := 10) (oi := ⟨some 110, _, _, _, _, some (1, true)⟩) (v := ?_) rfl (by kernel_rfl) (by kernel_rfl) (by kernel_rfl) (fun _ _ _ h => h) (Or.inl ⟨by rfl, ?_⟩) (by assumption) ?_
          rotate_left
          · intro w hSw; (try dsimp only at hSw); go_simp; (try with_reducible rfl)
          try simp only [Act.put, List.setIfInBounds_toArray, List.set_cons_zero, List.set_cons_succ]
          refine wpAnyH_take (i := 11) (oi := ⟨some 111, _, _, _, _, some (1, true)⟩) (v := ?_) rfl (by kernel_rfl) (by kernel_rfl) (by kernel_rfl) (fun _ _ _ h => h) (Or.inl ⟨by rfl, ?_⟩) (by assumption) ?_
          rotate_left
          · intro w hSw; (try dsimp only at hSw); go_simp; (try with_reducible rfl)
          try simp only [Act.put, List.setIfInBounds_toArray, List.set_cons_zero, List.set_cons_succ]
          refine wpAnyH_take (i := 12) (oi := ⟨some 112, _, _, _, _, some (1, true)⟩) (v := ?_) rfl (by kernel_rfl) (by kernel_rfl) (by kernel_rfl) (fun _ _ _ h => h) (Or.inl ⟨by rfl, ?_⟩) (by assumption) ?_
          rotate_left
          · intro w hSw; (try dsimp only at hSw); go_simp; (try with_reducible rfl)
          try simp only [Act.put, List.setIfInBounds_toArray, List.set_cons_zero, List.set_cons_succ]
          refine wpAnyH_take (i := 13) (oi := ⟨some 113, _, _, _, _, some (1, true)⟩) (v := ?_) rfl (by kernel_rfl) (by kernel_rfl) (by kernel_rfl) (fun _ _ _ h => h) (Or.inl ⟨by rfl, ?_⟩) (by assumption) ?_
          rotate_left
          · intro w hSw; (try dsimp only at hSw); go_simp; (try with_reducible rfl)
          try simp only [Act.put, List.setIfInBounds_toArray, List.set_cons_zero, List.set_cons_succ]
          refine wpAnyH_ready (rs := [8]) (by kernel_rfl) (by simp) ?_
          refine AllReadyH.cons (o := ⟨some 108, _, _, _, _, some (1, true)⟩) rfl (fun K hK => ?_) AllReadyH.nil
          go_simp
          go_wp2_with (go_at_call 23; refine (cn2.out _ I8.out).mono ?_; rintro e u9 ⟨rfl, hb9⟩)
          have B9 : Hid (Below w.heap.size w u9) := below_then B8.out hb9
          have t1 : u9.cell? ⟨w.heap.size, 1, none⟩ = some (.int .i64 k2) := (hb9.cell (p := ⟨w.heap.size, 1, none⟩) l8).trans v1
          have t2 : u9.cell? ⟨w.heap.size, 2, none⟩ = some (.int .i64 k3) := (hb9.cell (p := ⟨w.heap.size, 2, none⟩) l8).trans v2
          clear hb9 v1 v2 l8 B8 I8 hHeld
          refine hK.out _ _ ⟨t1, t2⟩ (fun hHeld => ?_)
          clear hK K
          try simp only [Act.put, List.setIfInBounds_toArray, List.set_cons_zero, List.set_cons_succ]
          refine wpAnyH_take (i := 14) (oi := ⟨some 114, _, _, _, _, some (1, true)⟩) (v := .bool true) rfl (by kernel_rfl) (by kernel_rfl) (by kernel_rfl) (fun _ _ _ h => h) (Or.inl ⟨by rfl, ?_⟩) (by assumption) ?_
          · intro w hSw; (try dsimp only at hSw); go_simp; (try simp); (try (simp only [IntKind.wrap_i64]; omega))
          try simp only [Act.put, List.setIfInBounds_toArray, List.set_cons_zero, List.set_cons_succ]
          refine wpAnyH_take (i := 15) (oi := ⟨some 115, _, _, _, _, none⟩) (v := ?_) rfl (by kernel_rfl) (by kernel_rfl) (by kernel_rfl) (fun _ _ _ h => h) (Or.inl ⟨by rfl, ?_⟩) (by assumption) ?_
          rotate_left
          · intro w hSw; (try dsimp only at hSw); go_simp; (try with_reducible rfl)
          try simp only [Act.put, List.setIfInBounds_toArray, List.set_cons_zero, List.set_cons_succ]
          refine wpAnyH_take (i := 16) (oi := ⟨some 4, _, _, _, _, none⟩) (v := ?_) rfl (by kernel_rfl) (by kernel_rfl) (by kernel_rfl) (fun _ _ _ h => h) (Or.inl ⟨by rfl, ?_⟩) (by assumption) ?_
          rotate_left
          · intro w hSw; (try dsimp only at hSw); go_simp; (try with_reducible rfl)
          try simp only [Act.put, List.setIfInBounds_toArray, List.set_cons_zero, List.set_cons_succ]
          clear hHeld
          refine wpAnyH_done (by kernel_rfl) ?_ _
          refine NoPanic.normal ?_
          go_wp2_with fail
          go_ret
          exact ⟨rfl, B9.out⟩
        | some pa =>
          have GC : Hid (∀ j u, (L.flatMap Rg.enc)[j]? = some u → (wr.alloc (.cells #[] 37)).cell? (pa.add j) = some u) := rg_cells (hI.out.below (Go.Joins.below_alloc1 _ _))
          have GO : Hid (∀ u ∈ L.flatMap Rg.enc, u.oneCell' = true) := rg_one L
          have GL : Hid ((L.flatMap Rg.enc).length = nL * 6) := by show _ = _; rw [flat_len, HNL.out]
          have O0 : Hid ((wr.alloc (.cells #[] 37)).ownsRow wr.heap.size 37 6 (.slice (some ⟨wr.heap.size, 0, none⟩) 0 0) 0 []) := start_own wr
          have HZ0 : Hid (wr.heap.size ≤ (wr.alloc (.cells #[] 37)).heap.size) := by show _ ≤ _; rw [World.size_alloc]; omega
          have MX0 : Hid (0 + nL ≤ maxLen) := by show _ ≤ _; unfold maxLen; omega
          have BY0 : Hid ((0 + nL) * 32 ≤ 140737488355328) := by show _ ≤ _; omega
          go_wp2_with (at_builtin; refine wpList_append_own _ rfl _ _ 23 rfl wr.heap.size 37 i0 zrg 6 32 Try.underlying23 hi hz0 hz1 hz2 rfl (by decide) (.slice (some ⟨wr.heap.size, 0, none⟩) 0 0) 0 [] rfl O0.out pa nL c (L.flatMap Rg.enc) rfl GL.out GC.out GO.out MX0.out BY0.out HZ0.out ?_; intro v1 a0 hown hg hnil; have O1 : Hid (OwnL a0 wr.heap.size v1 L) := (by rw [Nat.zero_add, List.nil_append, ← HNL.out] at hown; exact hown); have BA : Hid (Below wr.heap.size wr a0) := below_grown (Go.Joins.below_alloc1 _ _) O0.out hg; clear hown hg hnil O0 HZ0 MX0 BY0 GC GO GL; obtain ⟨p9, c9, hv9, hc9, I9⟩ := own_readb O1.out; have I9' : Hid (IsL a0 wr.heap.size p9 L) := I9; rw [HNL.out] at hv9; subst hv9; clear I9 hc9 O1; have Xa0 : Hid (a0.heap[w.heap.size]? = some (.cells #[.int .i64 k1, .int .i64 k2, .int .i64 k3, .bool k4, .bool k5, .bool k6, .int .i64 k7] 57 (0, 0))) := (BA.out.block _ lw).trans Xa.out; have ca0 : a0.cell? ⟨w.heap.size, 0, none⟩ = some (.int .i64 k1) := Go.Joins.cell_of_block Xa0.out 0; have ca1 : a0.cell? ⟨w.heap.size, 1, none⟩ = some (.int .i64 k2) := Go.Joins.cell_of_block Xa0.out 1; have ca2 : a0.cell? ⟨w.heap.size, 2, none⟩ = some (.int .i64 k3) := Go.Joins.cell_of_block Xa0.out 2; have ca3 : a0.cell? ⟨w.heap.size, 3, none⟩ = some (.bool k4) := Go.Joins.cell_of_block Xa0.out 3; have ca4 : a0.cell? ⟨w.heap.size, 4, none⟩ = some (.bool k5) := Go.Joins.cell_of_block Xa0.out 4; have ca5 : a0.cell? ⟨w.heap.size, 5, none⟩ = some (.bool k6) := Go.Joins.cell_of_block Xa0.out 5; have ca6 : a0.cell? ⟨w.heap.size, 6, none⟩ = some (.int .i64 k7) := Go.Joins.cell_of_block Xa0.out 6; have caf0 : a0.frozen? ⟨w.heap.size, 0, none⟩ = false := Go.Joins.unfrozen_of_block Xa0.out 0; have la0 : w.heap.size < a0.heap.size := blk_lt Xa0.out)
          have IU : Hid (IsL (a0.setCell ⟨w.heap.size, 0, none⟩ (.int .i64 1)) (w.heap.size + 1) (some pa) L) := IsL.sc (hI.out.below BA.out) (by omega)
          have NU : Hid (IsL (a0.setCell ⟨w.heap.size, 0, none⟩ (.int .i64 1)) (w.heap.size + 1) p9 L) := IsL.sc (I9'.out.weak (by omega)) (by omega)
          have BU : Hid (Below w.heap.size w (a0.setCell ⟨w.heap.size, 0, none⟩ (.int .i64 1))) := (below_then hB.out BA.out).setCell (Nat.le_refl _) _
          have AU : Hid ((a0.setCell ⟨w.heap.size, 0, none⟩ (.int .i64 1)).heap[w.heap.size]? = some (.cells #[.int .i64 1, .int .i64 k2, .int .i64 k3, .bool k4, .bool k5, .bool k6, .int .i64 k7] 57 (0, 0))) := Go.Joins.block_setCell Xa0.out _
          have SU : Hid ((w.heap.size + 1) ≤ (a0.setCell ⟨w.heap.size, 0, none⟩ (.int .i64 1)).heap.size) := by show _ ≤ _; rw [World.size_setCell]; omega
          clear ca0 ca1 ca2 ca3 ca4 ca5 ca6 caf0 Xa Xa0 I9' BA la0
          generalize a0.setCell ⟨w.heap.size, 0, none⟩ (.int .i64 1) = u0 at IU NU BU AU SU ⊢
          refine (d1.out _ IU.out SU.out).mono ?_
          rintro e u1 ⟨p1, c1, rfl, hc1, hi1, hb1⟩
          have A1 : Hid (u1.heap[w.heap.size]? = some (.cells #[.int .i64 1, .int .i64 k2, .int .i64 k3, .bool k4, .bool k5, .bool k6, .int .i64 k7] 57 (0, 0))) := (hb1.block _ (blk_lt AU.out)).trans AU.out
          have B1 : Hid (Below w.heap.size w u1) := below_then BU.out hb1
          have J1 : Hid (IsL u1 (w.heap.size + 1) (some pa) L) := IU.out.below hb1
          have N1 : Hid (IsL u1 (w.heap.size + 1) p9 L) := NU.out.below hb1
          have I1 : Hid (IsL u1 (w.heap.size + 1) p1 X) := hi1
          have S1 : Hid ((w.heap.size + 1) ≤ u1.heap.size) := Nat.le_trans SU.out hb1.size
          have cn2 : Hid _ := cn.out p1 c1
          clear hc1 hi1 hb1 AU BU IU NU SU d1 cn
          by_cases z1 : E1 = 0
          rotate_left
          · have zb : (E1 != 0) = true := by simp [z1]
            clear z1 BK RT
            generalize X.length = nX
            go_wp2_with fail
            refine (AWH.out _).mono ?_
            rintro e u9 ⟨rfl, hb9⟩
            have B9 : Hid (Below w.heap.size w u9) := below_then B1.out hb9
            clear hb9
            go_wp2_with fail
            go_ret
            exact ⟨rfl, B9.out⟩
          have zb : (E1 != 0) = false := by simp [z1]
          obtain ⟨b1, b2, b3⟩ := BK.out z1
          obtain ⟨r1', r2', r3'⟩ := RT.out z1
          have d2 : Hid (∀ W : World, IsL W (w.heap.size + 1) p1 X → (w.heap.size + 1) ≤ W.heap.size → Calls Try.prog 13 #[.slice p1 X.length c1, .agg #[.int .i64 k2, .int .i64 k3]] W fun e w' => ∃ p' c', e = .returned (.tuple #[.slice p' L.length c', .int .i64 0]) ∧ L.length ≤ c' ∧ IsL w' (w.heap.size + 1) p' L ∧ Below W.heap.size W w') := fun W h hw => cut_outb (w.heap.size + 1) p1 c1 X (by have := LX.out; omega) k2 k3 0 L b1 b2 W h hw
          rw [b3] at cn2
          rw [HNL.out] at d2
          have lxx := LX.out
          obtain ⟨nX, hnX⟩ : ∃ n, X.length = n := ⟨_, rfl⟩
          rw [hnX] at d2 cn2 lxx ⊢
          have Z1 : Hid (E1 = 0) := z1
          clear hnX b1 b2 b3 BK RT z1
          have ca0 : u1.cell? ⟨w.heap.size, 0, none⟩ = some (.int .i64 1) := Go.Joins.cell_of_block A1.out 0
          have ca1 : u1.cell? ⟨w.heap.size, 1, none⟩ = some (.int .i64 k2) := Go.Joins.cell_of_block A1.out 1
          have ca2 : u1.cell? ⟨w.heap.size, 2, none⟩ = some (.int .i64 k3) := Go.Joins.cell_of_block A1.out 2
          have ca3 : u1.cell? ⟨w.heap.size, 3, none⟩ = some (.bool k4) := Go.Joins.cell_of_block A1.out 3
          have ca4 : u1.cell? ⟨w.heap.size, 4, none⟩ = some (.bool k5) := Go.Joins.cell_of_block A1.out 4
          have ca5 : u1.cell? ⟨w.heap.size, 5, none⟩ = some (.bool k6) := Go.Joins.cell_of_block A1.out 5
          have ca6 : u1.cell? ⟨w.heap.size, 6, none⟩ = some (.int .i64 k7) := Go.Joins.cell_of_block A1.out 6
          have l1 : w.heap.size < u1.heap.size := blk_lt A1.out
          go_wp2_with fail
          refine (d2.out _ I1.out S1.out).mono ?_
          rintro e u2 ⟨p2, c2, rfl, hc2, hi2, hb2⟩
          have AX : Hid (u2.heap[w.heap.size]? = some (.cells #[.int .i64 1, .int .i64 k2, .int .i64 k3, .bool k4, .bool k5, .bool k6, .int .i64 k7] 57 (0, 0))) := (hb2.block _ (blk_lt A1.out)).trans A1.out
          have B2 : Hid (Below w.heap.size w u2) := below_then B1.out hb2
          have J2 : Hid (IsL u2 (w.heap.size + 1) (some pa) L) := J1.out.below hb2
          have N2 : Hid (IsL u2 (w.heap.size + 1) p9 L) := N1.out.below hb2
          have I2 : Hid (IsL u2 (w.heap.size + 1) p1 X) := I1.out.below hb2
          have K2 : Hid (IsL u2 (w.heap.size + 1) p2 L) := hi2
          clear hc2 hi2 hb2 A1 B1 J1 N1 I1 S1 d2 l1 ca0 ca1 ca2 ca3 ca4 ca5 ca6
          go_wp2_with fail
          go_loopw [76] (fun x W => ∃ m : Nat, m ≤ nL ∧ x = .int .i64 m ∧ Hid (IsL W (w.heap.size + 1) p2 L) ∧ Hid (IsL W (w.heap.size + 1) p9 L) ∧ Hid (IsL W (w.heap.size + 1) (some pa) L) ∧ Hid (IsL W (w.heap.size + 1) p1 X) ∧ Hid (Below w.heap.size w W) ∧ Hid (W.heap[w.heap.size]? = some (.cells #[.int .i64 1, .int .i64 k2, .int .i64 k3, .bool k4, .bool k5, .bool k6, .int .i64 k7] 57 (0, 0)))) (fun x _ => nL - (intOf x).toNat)
          case atStart => exact ⟨0, by omega, rfl, K2, N2, J2, I2, B2, AX⟩
          case round =>
            obtain ⟨m, hm, rfl, hI5, hJ5, hK5, hX5, hB5, AX⟩ := hrel
            by_cases hlm : m < nL
            · have hd : decide ((m : Int) < (nL : Int)) = true := by simp; omega
              have m0 : (0 : Int) ≤ (m : Int) := by omega
              have m1 : (m : Int) < (nL : Int) := by omega
              obtain ⟨g, rfl, _, g2, gc⟩ := hI5.out m (by rw [HNL.out]; exact hlm)
              obtain ⟨g', rfl, _, g2', gc'⟩ := hJ5.out m (by rw [HNL.out]; exact hlm)
              obtain ⟨g'', hpa, _, g2'', gc''⟩ := hK5.out m (by rw [HNL.out]; exact hlm)
              have hpb := Option.some.inj hpa
              subst hpb
              clear hpa
              generalize L.getD m Rg.zero = rr at gc gc' gc''
              obtain ⟨r1, r2, r3, r4, r5, r6⟩ := rr
              have y0 : wr.cell? ⟨g, m * 6, none⟩ = some (.int .i64 r1) := gc 0 _ rfl
              have y1 : wr.cell? ⟨g, m * 6 + 1, none⟩ = some (.int .i64 r2) := gc 1 _ rfl
              have y2 : wr.cell? ⟨g, m * 6 + 2, none⟩ = some (.bool r3) := gc 2 _ rfl
              have y3 : wr.cell? ⟨g, m * 6 + 3, none⟩ = some (.bool r4) := gc 3 _ rfl
              have y4 : wr.cell? ⟨g, m * 6 + 4, none⟩ = some (.bool r5) := gc 4 _ rfl
              have y5 : wr.cell? ⟨g, m * 6 + 5, none⟩ = some (.int .i64 r6) := gc 5 _ rfl
              have z0 : wr.cell? ⟨g', m * 6, none⟩ = some (.int .i64 r1) := gc' 0 _ rfl
              have z1 : wr.cell? ⟨g', m * 6 + 1, none⟩ = some (.int .i64 r2) := gc' 1 _ rfl
              have z2 : wr.cell? ⟨g', m * 6 + 2, none⟩ = some (.bool r3) := gc' 2 _ rfl
              have z3 : wr.cell? ⟨g', m * 6 + 3, none⟩ = some (.bool r4) := gc' 3 _ rfl
              have z4 : wr.cell? ⟨g', m * 6 + 4, none⟩ = some (.bool r5) := gc' 4 _ rfl
              have z5 : wr.cell? ⟨g', m * 6 + 5, none⟩ = some (.int .i64 r6) := gc' 5 _ rfl
              have x0 : wr.cell? ⟨g'', m * 6, none⟩ = some (.int .i64 r1) := gc'' 0 _ rfl
              have x1 : wr.cell? ⟨g'', m * 6 + 1, none⟩ = some (.int .i64 r2) := gc'' 1 _ rfl
              have x2 : wr.cell? ⟨g'', m * 6 + 2, none⟩ = some (.bool r3) := gc'' 2 _ rfl
              have x3 : wr.cell? ⟨g'', m * 6 + 3, none⟩ = some (.bool r4) := gc'' 3 _ rfl
              have x4 : wr.cell? ⟨g'', m * 6 + 4, none⟩ = some (.bool r5) := gc'' 4 _ rfl
              have x5 : wr.cell? ⟨g'', m * 6 + 5, none⟩ = some (.int .i64 r6) := gc'' 5 _ rfl
              clear gc gc' gc''
              go_wp2_with fail
              go_quiet (fail)
              go_wp2_with fail
              go_roundw
              case rel => exact ⟨m + 1, by omega, by go_num, IsL.drewn hI5.out, IsL.drewn hJ5.out, IsL.drewn hK5.out, IsL.drewn hX5.out, below_drewn hB5.out, AX.out⟩
              case measure => simp [intOf]; omega
            · have hd : decide ((m : Int) < (nL : Int)) = false := by simp; omega
              go_wp2_with fail
              have x1 : wr.cell? ⟨w.heap.size, 1, none⟩ = some (.int .i64 k2) := Go.Joins.cell_of_block AX.out 1
              have x2 : wr.cell? ⟨w.heap.size, 2, none⟩ = some (.int .i64 k3) := Go.Joins.cell_of_block AX.out 2
              refine wp_region_noPanic ?_
              refine wp_region_held_drew (S := fun c => c.cell? ⟨w.heap.size, 1, none⟩ = some (.int .i64 k2) ∧ c.cell? ⟨w.heap.size, 2, none⟩ = some (.int .i64 k3)) (by kernel_rfl) ?_ (fun hHeld => ?_)
              · exact ⟨x1, x2⟩
              have BD : Hid (Below w.heap.size w wr.drew) := below_drewn (m := 1) hB5.out
              have ID : Hid (IsL wr.drew (w.heap.size + 1) p1 X) := hX5.out
              have XD : Hid (wr.drew.cell? ⟨w.heap.size, 1, none⟩ = some (.int .i64 k2) ∧ wr.drew.cell? ⟨w.heap.size, 2, none⟩ = some (.int .i64 k3) ∧ w.heap.size < wr.drew.heap.size) := ⟨x1, x2, blk_lt AX.out⟩
              clear x1 x2 AX hB5 hX5
              generalize wr.drew = U at BD ID XD hHeld ⊢
              refine wpAnyH_ready (rs := [0]) (by kernel_rfl) (by simp) ?_
              refine AllReadyH.cons (o := ⟨some 100, _, _, _, _, none⟩) rfl (fun K hK => ?_) AllReadyH.nil
              go_simp
              go_wp2_with (go_at_call 16; refine (AWH.out _).mono ?_; rintro e u8 ⟨rfl, hb8⟩)
              obtain ⟨y1, y2, ly⟩ := XD.out
              have B8 : Hid (Below w.heap.size w u8) := below_then BD.out hb8
              have I8 : Hid (IsL u8 (w.heap.size + 1) p1 X) := ID.out.below hb8
              have v1 : u8.cell? ⟨w.heap.size, 1, none⟩ = some (.int .i64 k2) := (hb8.cell (p := ⟨w.heap.size, 1, none⟩) ly).trans y1
              have v2 : u8.cell? ⟨w.heap.size, 2, none⟩ = some (.int .i64 k3) := (hb8.cell (p := ⟨w.heap.size, 2, none⟩) ly).trans y2
              have l8 : w.heap.size < u8.heap.size := Nat.lt_of_lt_of_le ly hb8.size
              clear hb8 y1 y2 ly XD BD ID hHeld
              refine hK.out _ _ ⟨v1, v2⟩ (fun hHeld => ?_)
              clear hK K
              try simp only [Act.put, List.setIfInBounds_toArray, List.set_cons_zero, List.set_cons_succ]
              refine wpAnyH_take (i := 1) (oi := ⟨some 101, _, _, _, _, none⟩) (v := ?_) rfl (by kernel_rfl) (by kernel_rfl) (by kernel_rfl) (fun _ _ _ h => h) (Or.inl ⟨by rfl, ?_⟩) (by assumption) ?_
              rotate_left
              · intro w hSw; (try dsimp only at hSw); go_simp; (try with_reducible rfl)
              try simp only [Act.put, List.setIfInBounds_toArray, List.set_cons_zero, List.set_cons_succ]
              refine wpAnyH_take (i := 2) (oi := ⟨some 102, _, _, _, _, some (1, true)⟩) (v := ?_) rfl (by kernel_rfl) (by kernel_rfl) (by kernel_rfl) (fun _ _ _ h => h) (Or.inl ⟨by rfl, ?_⟩) (by assumption) ?_
              rotate_left
              · intro w hSw; (try dsimp only at hSw); go_simp; (try with_reducible rfl)
              try simp only [Act.put, List.setIfInBounds_toArray, List.set_cons_zero, List.set_cons_succ]
              refine wpAnyH_take (i := 3) (oi := ⟨some 103, _, _, _, _, some (1, true)⟩) (v := ?_) rfl (by kernel_rfl) (by kernel_rfl) (by kernel_rfl) (fun _ _ _ h => h) (Or.inl ⟨by rfl, ?_⟩) (by assumption) ?_
              rotate_left
              · intro w hSw; (try dsimp only at hSw); go_simp; (try with_reducible rfl)
              try simp only [Act.put, List.setIfInBounds_toArray, List.set_cons_zero, List.set_cons_succ]
              refine wpAnyH_take (i := 4) (oi := ⟨some 104, _, _, _, _, some (1, true)⟩) (v := ?_) rfl (by kernel_rfl) (by kernel_rfl) (by kernel_rfl) (fun _ _ _ h => h) (Or.inl ⟨by rfl, ?_⟩) (by assumption) ?_
              rotate_left
              · intro w hSw; (try dsimp only at hSw); go_simp; (try with_reducible rfl)
              try simp only [Act.put, List.setIfInBounds_toArray, List.set_cons_zero, List.set_cons_succ]
              refine wpAnyH_take (i := 5) (oi := ⟨some 105, _, _, _, _, some (1, true)⟩) (v := ?_) rfl (by kernel_rfl) (by kernel_rfl) (by kernel_rfl) (fun _ _ _ h => h) (Or.inl ⟨by rfl, ?_⟩) (by assumption) ?_
              rotate_left
              · intro w hSw; (try dsimp only at hSw); go_simp; (try with_reducible rfl)
              try simp only [Act.put, List.setIfInBounds_toArray, List.set_cons_zero, List.set_cons_succ]
              refine wpAnyH_take (i := 6) (oi := ⟨some 106, _, _, _, _, some (1, true)⟩) (v := ?_) rfl (by kernel_rfl) (by kernel_rfl) (by kernel_rfl) (fun _ _ _ h => h) (Or.inl ⟨by rfl, ?_⟩) (by assumption) ?_
              rotate_left
              · intro w hSw; (try dsimp only at hSw); go_simp; (try with_reducible rfl)
              try simp only [Act.put, List.setIfInBounds_toArray, List.set_cons_zero, List.set_cons_succ]
              refine wpAnyH_take (i := 7) (oi := ⟨some 107, _, _, _, _, some (1, true)⟩) (v := ?_) rfl (by kernel_rfl) (by kernel_rfl) (by kernel_rfl) (fun _ _ _ h => h) (Or.inl ⟨by rfl, ?_⟩) (by assumption) ?_
              rotate_left
              · intro w hSw; (try dsimp only at hSw); go_simp; (try with_reducible rfl)
              try simp only [Act.put, List.setIfInBounds_toArray, List.set_cons_zero, List.set_cons_succ]
              refine wpAnyH_take (i := 9) (oi := ⟨some 109, _, _, _, _, some (1, true)⟩) (v := ?_) rfl (by kernel_rfl) (by kernel_rfl) (by kernel_rfl) (fun _ _ _ h => h) (Or.inl ⟨by rfl, ?_⟩) (by assumption) ?_
              rotate_left
              · intro w hSw; (try dsimp only at hSw); go_simp; (try with_reducible rfl)
              try simp only [Act.put, List.setIfInBounds_toArray, List.set_cons_zero, List.set_cons_succ]
              refine wpAnyH_take (i := 10) (oi := ⟨some 110, _, _, _, _, some (1, true)⟩) (v := ?_) rfl (by kernel_rfl) (by kernel_rfl) (by kernel_rfl) (fun _ _ _ h => h) (Or.inl ⟨by rfl, ?_⟩) (by assumption) ?_
              rotate_left
              · intro w hSw; (try dsimp only at hSw); go_simp; (try with_reducible rfl)
              try simp only [Act.put, List.setIfInBounds_toArray, List.set_cons_zero, List.set_cons_succ]
              refine wpAnyH_take (i := 11) (oi := ⟨some 111, _, _, _, _, some (1, true)⟩) (v := ?_) rfl (by kernel_rfl) (by kernel_rfl) (by kernel_rfl) (fun _ _ _ h => h) (Or.inl ⟨by rfl, ?_⟩) (by assumption) ?_
              rotate_left
              · intro w hSw; (try dsimp only at hSw); go_simp; (try with_reducible rfl)
              try simp only [Act.put, List.setIfInBounds_toArray, List.set_cons_zero, List.set_cons_succ]
              refine wpAnyH_take (i := 12) (oi := ⟨some 112, _, _, _, _, some (1, true)⟩) (v := ?_) rfl (by kernel_rfl) (by kernel_rfl) (by kernel_rfl) (fun _ _ _ h => h) (Or.inl ⟨by rfl, ?_⟩) (by assumption) ?_
              rotate_left
              · intro w hSw; (try dsimp only at hSw); go_simp; (try with_reducible rfl)
              try simp only [Act.put, List.setIfInBounds_toArray, List.set_cons_zero, List.set_cons_succ]
              refine wpAnyH_take (i := 13) (oi := ⟨some 113, _, _, _, _, some (1, true)⟩) (v := ?_) rfl (by kernel_rfl) (by kernel_rfl) (by kernel_rfl) (fun _ _ _ h => h) (Or.inl ⟨by rfl, ?_⟩) (by assumption) ?_
              rotate_left
              · intro w hSw; (try dsimp only at hSw); go_simp; (try with_reducible rfl)
              try simp only [Act.put, List.setIfInBounds_toArray, List.set_cons_zero, List.set_cons_succ]
              refine wpAnyH_ready (rs := [8]) (by kernel_rfl) (by simp) ?_
              refine AllReadyH.cons (o := ⟨some 108, _, _, _, _, some (1, true)⟩) rfl (fun K hK => ?_) AllReadyH.nil
              go_simp
              go_wp2_with (go_at_call 23; refine (cn2.out _ I8.out).mono ?_; rintro e u9 ⟨rfl, hb9⟩)
              have B9 : Hid (Below w.heap.size w u9) := below_then B8.out hb9
              have t1 : u9.cell? ⟨w.heap.size, 1, none⟩ = some (.int .i64 k2) := (hb9.cell (p := ⟨w.heap.size, 1, none⟩) l8).trans v1
              have t2 : u9.cell? ⟨w.heap.size, 2, none⟩ = some (.int .i64 k3) := (hb9.cell (p := ⟨w.heap.size, 2, none⟩) l8).trans v2
              clear hb9 v1 v2 l8 B8 I8 hHeld
              refine hK.out _ _ ⟨t1, t2⟩ (fun hHeld => ?_)
              clear hK K
              try simp only [Act.put, List.setIfInBounds_toArray, List.set_cons_zero, List.set_cons_succ]
              refine wpAnyH_take (i := 14) (oi := ⟨some 114, _, _, _, _, some (1, true)⟩) (v := .bool true) rfl (by kernel_rfl) (by kernel_rfl) (by kernel_rfl) (fun _ _ _ h => h) (Or.inl ⟨by rfl, ?_⟩) (by assumption) ?_
              · intro w hSw; (try dsimp only at hSw); go_simp; (try simp); (try (simp only [IntKind.wrap_i64]; omega))
              try simp only [Act.put, List.setIfInBounds_toArray, List.set_cons_zero, List.set_cons_succ]
              refine wpAnyH_take (i := 15) (oi := ⟨some 115, _, _, _, _, none⟩) (v := ?_) rfl (by kernel_rfl) (by kernel_rfl) (by kernel_rfl) (fun _ _ _ h => h) (Or.inl ⟨by rfl, ?_⟩) (by assumption) ?_
              rotate_left
              · intro w hSw; (try dsimp only at hSw); go_simp; (try with_reducible rfl)
              try simp only [Act.put, List.setIfInBounds_toArray, List.set_cons_zero, List.set_cons_succ]
              refine wpAnyH_take (i := 16) (oi := ⟨some 4, _, _, _, _, none⟩) (v := ?_) rfl (by kernel_rfl) (by kernel_rfl) (by kernel_rfl) (fun _ _ _ h => h) (Or.inl ⟨by rfl, ?_⟩) (by assumption) ?_
              rotate_left
              · intro w hSw; (try dsimp only at hSw); go_simp; (try with_reducible rfl)
              try simp only [Act.put, List.setIfInBounds_toArray, List.set_cons_zero, List.set_cons_succ]
              clear hHeld
              refine wpAnyH_done (by kernel_rfl) ?_ _
              refine NoPanic.normal ?_
              go_wp2_with fail
              go_ret
              exact ⟨rfl, B9.out⟩
      · have hd : decide ((k : Int) < (n0 : Int)) = false := by simp; omega
        clear hlt
        cases p with
        | none =>
          have nb : L = [] := by
            have hI' := hI.out
            cases L with
            | nil => rfl
            | cons x r => obtain ⟨q, e, _⟩ := hI' 0 (by simp); cases e
          have n0' : nL = 0 := by rw [← HNL.out, nb]; rfl
          subst n0'
          have hap : ∀ ty, (Builtin.append_ #[23, 23] ty #[.slice (some ⟨wr.heap.size, 0, none⟩) 0 0, .slice none 0 c]).run Try.prog (wr.alloc (.cells #[] 37)) = .ok (.slice (some ⟨wr.heap.size, 0, none⟩) 0 0) (wr.alloc (.cells #[] 37)) := fun ty => app_none 23 ty i0 zrg 37 Try.underlying23 hi hz0 _ _ _
          have IU : Hid (IsL ((wr.setCell ⟨w.heap.size, 0, none⟩ (.int .i64 1)).alloc (.cells #[] 37)) (w.heap.size + 1) none L) := by show IsL _ _ _ _; rw [nb]; exact nil_isb _ _
          have NU : Hid (IsL ((wr.setCell ⟨w.heap.size, 0, none⟩ (.int .i64 1)).alloc (.cells #[] 37)) (w.heap.size + 1) (some ⟨wr.heap.size, 0, none⟩) L) := by show IsL _ _ _ _; rw [nb]; exact fun i hi => absurd hi (Nat.not_lt_zero _)
          have BU : Hid (Below w.heap.size w ((wr.setCell ⟨w.heap.size, 0, none⟩ (.int .i64 1)).alloc (.cells #[] 37))) := below_new (hB.out.setCell (Nat.le_refl _) _) _
          have AU : Hid (((wr.setCell ⟨w.heap.size, 0, none⟩ (.int .i64 1)).alloc (.cells #[] 37)).heap[w.heap.size]? = some (.cells #[.int .i64 1, .int .i64 k2, .int .i64 k3, .bool k4, .bool k5, .bool k6, .int .i64 k7] 57 (0, 0))) := ((Go.Joins.below_alloc1 _ _).block _ (by rw [World.size_setCell]; omega)).trans (Go.Joins.block_setCell Xa.out _)
          have SU : Hid ((w.heap.size + 1) ≤ ((wr.setCell ⟨w.heap.size, 0, none⟩ (.int .i64 1)).alloc (.cells #[] 37)).heap.size) := by show _ ≤ _; rw [World.size_alloc, World.size_setCell]; omega
          have ca0 : wr.cell? ⟨w.heap.size, 0, none⟩ = some (.int .i64 k1) := Go.Joins.cell_of_block Xa.out 0
          have ca1 : wr.cell? ⟨w.heap.size, 1, none⟩ = some (.int .i64 k2) := Go.Joins.cell_of_block Xa.out 1
          have ca2 : wr.cell? ⟨w.heap.size, 2, none⟩ = some (.int .i64 k3) := Go.Joins.cell_of_block Xa.out 2
          have ca3 : wr.cell? ⟨w.heap.size, 3, none⟩ = some (.bool k4) := Go.Joins.cell_of_block Xa.out 3
          have ca4 : wr.cell? ⟨w.heap.size, 4, none⟩ = some (.bool k5) := Go.Joins.cell_of_block Xa.out 4
          have ca5 : wr.cell? ⟨w.heap.size, 5, none⟩ = some (.bool k6) := Go.Joins.cell_of_block Xa.out 5
          have ca6 : wr.cell? ⟨w.heap.size, 6, none⟩ = some (.int .i64 k7) := Go.Joins.cell_of_block Xa.out 6
          have caf0 : wr.frozen? ⟨w.heap.size, 0, none⟩ = false := Go.Joins.unfrozen_of_block Xa.out 0
          go_wp2_with fail
          generalize ((wr.setCell ⟨w.heap.size, 0, none⟩ (.int .i64 1)).alloc (.cells #[] 37)) = u0 at IU NU BU AU SU ⊢
          generalize wr.heap.size = q at NU ⊢
          clear ca0 ca1 ca2 ca3 ca4 ca5 ca6 caf0 Xa hap
          refine (d1.out _ IU.out SU.out).mono ?_
          rintro e u1 ⟨p1, c1, rfl, hc1, hi1, hb1⟩
          have A1 : Hid (u1.heap[w.heap.size]? = some (.cells #[.int .i64 1, .int .i64 k2, .int .i64 k3, .bool k4, .bool k5, .bool k6, .int .i64 k7] 57 (0, 0))) := (hb1.block _ (blk_lt AU.out)).trans AU.out
          have B1 : Hid (Below w.heap.size w u1) := below_then BU.out hb1
          have J1 : Hid (IsL u1 (w.heap.size + 1) none L) := IU.out.below hb1
          have N1 : Hid (IsL u1 (w.heap.size + 1) (some ⟨q, 0, none⟩) L) := NU.out.below hb1
          have I1 : Hid (IsL u1 (w.heap.size + 1) p1 X) := hi1
          have S1 : Hid ((w.heap.size + 1) ≤ u1.heap.size) := Nat.le_trans SU.out hb1.size
          have cn2 : Hid _ := cn.out p1 c1
          clear hc1 hi1 hb1 AU BU IU NU SU d1 cn
          by_cases z1 : E1 = 0
          rotate_left
          · have zb : (E1 != 0) = true := by simp [z1]
            clear z1 BK RT
            generalize X.length = nX
            go_wp2_with fail
            refine (AWH.out _).mono ?_
            rintro e u9 ⟨rfl, hb9⟩
            have B9 : Hid (Below w.heap.size w u9) := below_then B1.out hb9
            clear hb9
            go_wp2_with fail
            go_ret
            exact ⟨rfl, B9.out⟩
          have zb : (E1 != 0) = false := by simp [z1]
          obtain ⟨b1, b2, b3⟩ := BK.out z1
          obtain ⟨r1', r2', r3'⟩ := RT.out z1
          have d2 : Hid (∀ W : World, IsL W (w.heap.size + 1) p1 X → (w.heap.size + 1) ≤ W.heap.size → Calls Try.prog 13 #[.slice p1 X.length c1, .agg #[.int .i64 k2, .int .i64 k3]] W fun e w' => ∃ p' c', e = .returned (.tuple #[.slice p' L.length c', .int .i64 0]) ∧ L.length ≤ c' ∧ IsL w' (w.heap.size + 1) p' L ∧ Below W.heap.size W w') := fun W h hw => cut_outb (w.heap.size + 1) p1 c1 X (by have := LX.out; omega) k2 k3 0 L b1 b2 W h hw
          rw [b3] at cn2
          rw [HNL.out] at d2
          have lxx := LX.out
          obtain ⟨nX, hnX⟩ : ∃ n, X.length = n := ⟨_, rfl⟩
          rw [hnX] at d2 cn2 lxx ⊢
          have Z1 : Hid (E1 = 0) := z1
          clear hnX b1 b2 b3 BK RT z1
          have ca0 : u1.cell? ⟨w.heap.size, 0, none⟩ = some (.int .i64 1) := Go.Joins.cell_of_block A1.out 0
          have ca1 : u1.cell? ⟨w.heap.size, 1, none⟩ = some (.int .i64 k2) := Go.Joins.cell_of_block A1.out 1
          have ca2 : u1.cell? ⟨w.heap.size, 2, none⟩ = some (.int .i64 k3) := Go.Joins.cell_of_block A1.out 2
          have ca3 : u1.cell? ⟨w.heap.size, 3, none⟩ = some (.bool k4) := Go.Joins.cell_of_block A1.out 3
          have ca4 : u1.cell? ⟨w.heap.size, 4, none⟩ = some (.bool k5) := Go.Joins.cell_of_block A1.out 4
          have ca5 : u1.cell? ⟨w.heap.size, 5, none⟩ = some (.bool k6) := Go.Joins.cell_of_block A1.out 5
          have ca6 : u1.cell? ⟨w.heap.size, 6, none⟩ = some (.int .i64 k7) := Go.Joins.cell_of_block A1.out 6
          have l1 : w.heap.size < u1.heap.size := blk_lt A1.out
          go_wp2_with fail
          refine (d2.out _ I1.out S1.out).mono ?_
          rintro e u2 ⟨p2, c2, rfl, hc2, hi2, hb2⟩
          have AX : Hid (u2.heap[w.heap.size]? = some (.cells #[.int .i64 1, .int .i64 k2, .int .i64 k3, .bool k4, .bool k5, .bool k6, .int .i64 k7] 57 (0, 0))) := (hb2.block _ (blk_lt A1.out)).trans A1.out
          have B2 : Hid (Below w.heap.size w u2) := below_then B1.out hb2
          have J2 : Hid (IsL u2 (w.heap.size + 1) none L) := J1.out.below hb2
          have N2 : Hid (IsL u2 (w.heap.size + 1) (some ⟨q, 0, none⟩) L) := N1.out.below hb2
          have I2 : Hid (IsL u2 (w.heap.size + 1) p1 X) := I1.out.below hb2
          have K2 : Hid (IsL u2 (w.heap.size + 1) p2 L) := hi2
          clear hc2 hi2 hb2 A1 B1 J1 N1 I1 S1 d2 l1 ca0 ca1 ca2 ca3 ca4 ca5 ca6
          go_wp2_with fail
          refine wp_loop_rounds 1 ?_
          rw [rounds_succ]
          go_wp2_with fail
          have x1 : u2.cell? ⟨w.heap.size, 1, none⟩ = some (.int .i64 k2) := Go.Joins.cell_of_block AX.out 1
          have x2 : u2.cell? ⟨w.heap.size, 2, none⟩ = some (.int .i64 k3) := Go.Joins.cell_of_block AX.out 2
          refine wp_region_noPanic ?_
          refine wp_region_held_drew (S := fun c => c.cell? ⟨w.heap.size, 1, none⟩ = some (.int .i64 k2) ∧ c.cell? ⟨w.heap.size, 2, none⟩ = some (.int .i64 k3)) (by kernel_rfl) ?_ (fun hHeld => ?_)
          · exact ⟨x1, x2⟩
          have BD : Hid (Below w.heap.size w u2.drew) := below_drewn (m := 1) B2.out
          have ID : Hid (IsL u2.drew (w.heap.size + 1) p1 X) := I2.out
          have XD : Hid (u2.drew.cell? ⟨w.heap.size, 1, none⟩ = some (.int .i64 k2) ∧ u2.drew.cell? ⟨w.heap.size, 2, none⟩ = some (.int .i64 k3) ∧ w.heap.size < u2.drew.heap.size) := ⟨x1, x2, blk_lt AX.out⟩
          clear x1 x2 AX B2 I2
          generalize u2.drew = U at BD ID XD hHeld ⊢
          refine wpAnyH_ready (rs := [0]) (by kernel_rfl) (by simp) ?_
          refine AllReadyH.cons (o := ⟨some 100, _, _, _, _, none⟩) rfl (fun K hK => ?_) AllReadyH.nil
          go_simp
          go_wp2_with (go_at_call 16; refine (AWH.out _).mono ?_; rintro e u8 ⟨rfl, hb8⟩)
          obtain ⟨y1, y2, ly⟩ := XD.out
          have B8 : Hid (Below w.heap.size w u8) := below_then BD.out hb8
          have I8 : Hid (IsL u8 (w.heap.size + 1) p1 X) := ID.out.below hb8
          have v1 : u8.cell? ⟨w.heap.size, 1, none⟩ = some (.int .i64 k2) := (hb8.cell (p := ⟨w.heap.size, 1, none⟩) ly).trans y1
          have v2 : u8.cell? ⟨w.heap.size, 2, none⟩ = some (.int .i64 k3) := (hb8.cell (p := ⟨w.heap.size, 2, none⟩) ly).trans y2
          have l8 : w.heap.size < u8.heap.size := Nat.lt_of_lt_of_le ly hb8.size
          clear hb8 y1 y2 ly XD BD ID hHeld
          refine hK.out _ _ ⟨v1, v2⟩ (fun hHeld => ?_)
          clear hK K
          try simp only [Act.put, List.setIfInBounds_toArray, List.set_cons_zero, List.set_cons_succ]
          refine wpAnyH_take (i := 1) (oi := ⟨some 101, _, _, _, _, none⟩) (v := ?_) rfl (by kernel_rfl) (by kernel_rfl) (by kernel_rfl) (fun _ _ _ h => h) (Or.inl ⟨by rfl, ?_⟩) (by assumption) ?_
          rotate_left
          · intro w hSw; (try dsimp only at hSw); go_simp; (try with_reducible rfl)
          try simp only [Act.put, List.setIfInBounds_toArray, List.set_cons_zero, List.set_cons_succ]
          refine wpAnyH_take (i := 2) (oi := ⟨some 102, _, _, _, _, some (1, true)⟩) (v := ?_) rfl (by kernel_rfl) (by kernel_rfl) (by kernel_rfl) (fun _ _ _ h => h) (Or.inl ⟨by rfl, ?_⟩) (by assumption) ?_
          rotate_left
          · intro w hSw; (try dsimp only at hSw); go_simp; (try with_reducible rfl)
          try simp only [Act.put, List.setIfInBounds_toArray, List.set_cons_zero, List.set_cons_succ]
          refine wpAnyH_take (i := 3) (oi := ⟨some 103, _, _, _, _, some (1, true)⟩) (v := ?_) rfl (by kernel_rfl) (by kernel_rfl) (by kernel_rfl) (fun _ _ _ h => h) (Or.inl ⟨by rfl, ?_⟩) (by assumption) ?_
          rotate_left
          · intro w hSw; (try dsimp only at hSw); go_simp; (try with_reducible rfl)
          try simp only [Act.put, List.setIfInBounds_toArray, List.set_cons_zero, List.set_cons_succ]
          refine wpAnyH_take (i := 4) (oi := ⟨some 104, _, _, _, _, some (1, true)⟩) (v := ?_) rfl (by kernel_rfl) (by kernel_rfl) (by kernel_rfl) (fun _ _ _ h => h) (Or.inl ⟨by rfl, ?_⟩) (by assumption) ?_
          rotate_left
          · intro w hSw; (try dsimp only at hSw); go_simp; (try with_reducible rfl)
          try simp only [Act.put, List.setIfInBounds_toArray, List.set_cons_zero, List.set_cons_succ]
          refine wpAnyH_take (i := 5) (oi := ⟨some 105, _, _, _, _, some (1, true)⟩) (v := ?_) rfl (by kernel_rfl) (by kernel_rfl) (by kernel_rfl) (fun _ _ _ h => h) (Or.inl ⟨by rfl, ?_⟩) (by assumption) ?_
          rotate_left
          · intro w hSw; (try dsimp only at hSw); go_simp; (try with_reducible rfl)
          try simp only [Act.put, List.setIfInBounds_toArray, List.set_cons_zero, List.set_cons_succ]
          refine wpAnyH_take (i := 6) (oi := ⟨some 106, _, _, _, _, some (1, true)⟩) (v := ?_) rfl (by kernel_rfl) (by kernel_rfl) (by kernel_rfl) (fun _ _ _ h => h) (Or.inl ⟨by rfl, ?_⟩) (by assumption) ?_
          rotate_left
          · intro w hSw; (try dsimp only at hSw); go_simp; (try with_reducible rfl)
          try simp only [Act.put, List.setIfInBounds_toArray, List.set_cons_zero, List.set_cons_succ]
          refine wpAnyH_take (i := 7) (oi := ⟨some 107, _, _, _, _, some (1, true)⟩) (v := ?_) rfl (by kernel_rfl) (by kernel_rfl) (by kernel_rfl) (fun _ _ _ h => h) (Or.inl ⟨by rfl, ?_⟩) (by assumption) ?_
          rotate_left
          · intro w hSw; (try dsimp only at hSw); go_simp; (try with_reducible rfl)
          try simp only [Act.put, List.setIfInBounds_toArray, List.set_cons_zero, List.set_cons_succ]
          refine wpAnyH_take (i := 9) (oi := ⟨some 109, _, _, _, _, some (1, true)⟩) (v := ?_) rfl (by kernel_rfl) (by kernel_rfl) (by kernel_rfl) (fun _ _ _ h => h) (Or.inl ⟨by rfl, ?_⟩) (by assumption) ?_
          rotate_left
          · intro w hSw; (try dsimp only at hSw); go_simp; (try with_reducible rfl)
          try simp only [Act.put, List.setIfInBounds_toArray, List.set_cons_zero, List.set_cons_succ]
          refine wpAnyH_take (i := 10) (oi := ⟨some 110, _, _, _, _, some (1, true)⟩) (v := ?_) rfl (by kernel_rfl) (by kernel_rfl) (by kernel_rfl) (fun _ _ _ h => h) (Or.inl ⟨by rfl, ?_⟩) (by assumption) ?_
          rotate_left
          · intro w hSw; (try dsimp only at hSw); go_simp; (try with_reducible rfl)
          try simp only [Act.put, List.setIfInBounds_toArray, List.set_cons_zero, List.set_cons_succ]
          refine wpAnyH_take (i := 11) (oi := ⟨some 111, _, _, _, _, some (1, true)⟩) (v := ?_) rfl (by kernel_rfl) (by kernel_rfl) (by kernel_rfl) (fun _ _ _ h => h) (Or.inl ⟨by rfl, ?_⟩) (by assumption) ?_
          rotate_left
          · intro w hSw; (try dsimp only at hSw); go_simp; (try with_reducible rfl)
          try simp only [Act.put, List.setIfInBounds_toArray, List.set_cons_zero, List.set_cons_succ]
          refine wpAnyH_take (i := 12) (oi := ⟨some 112, _, _, _, _, some (1, true)⟩) (v := ?_) rfl (by kernel_rfl) (by kernel_rfl) (by kernel_rfl) (fun _ _ _ h => h) (Or.inl ⟨by rfl, ?_⟩) (by assumption) ?_
          rotate_left
          · intro w hSw; (try dsimp only at hSw); go_simp; (try with_reducible rfl)
          try simp only [Act.put, List.setIfInBounds_toArray, List.set_cons_zero, List.set_cons_succ]
          refine wpAnyH_take (i := 13) (oi := ⟨some 113, _, _, _, _, some (1, true)⟩) (v := ?_) rfl (by kernel_rfl) (by kernel_rfl) (by kernel_rfl) (fun _ _ _ h => h) (Or.inl ⟨by rfl, ?_⟩) (by assumption) ?_
          rotate_left
          · intro w hSw; (try dsimp only at hSw); go_simp; (try with_reducible rfl)
          try simp only [Act.put, List.setIfInBounds_toArray, List.set_cons_zero, List.set_cons_succ]
          refine wpAnyH_ready (rs := [8]) (by kernel_rfl) (by simp) ?_
          refine AllReadyH.cons (o := ⟨some 108, _, _, _, _, some (1, true)⟩) rfl (fun K hK => ?_) AllReadyH.nil
          go_simp
          go_wp2_with (go_at_call 23; refine (cn2.out _ I8.out).mono ?_; rintro e u9 ⟨rfl, hb9⟩)
          have B9 : Hid (Below w.heap.size w u9) := below_then B8.out hb9
          have t1 : u9.cell? ⟨w.heap.size, 1, none⟩ = some (.int .i64 k2) := (hb9.cell (p := ⟨w.heap.size, 1, none⟩) l8).trans v1
          have t2 : u9.cell? ⟨w.heap.size, 2, none⟩ = some (.int .i64 k3) := (hb9.cell (p := ⟨w.heap.size, 2, none⟩) l8).trans v2
          clear hb9 v1 v2 l8 B8 I8 hHeld
          refine hK.out _ _ ⟨t1, t2⟩ (fun hHeld => ?_)
          clear hK K
          try simp only [Act.put, List.setIfInBounds_toArray, List.set_cons_zero, List.set_cons_succ]
          refine wpAnyH_take (i := 14) (oi := ⟨some 114, _, _, _, _, some (1, true)⟩) (v := .bool true) rfl (by kernel_rfl) (by kernel_rfl) (by kernel_rfl) (fun _ _ _ h => h) (Or.inl ⟨by rfl, ?_⟩) (by assumption) ?_
          · intro w hSw; (try dsimp only at hSw); go_simp; (try simp); (try (simp only [IntKind.wrap_i64]; omega))
          try simp only [Act.put, List.setIfInBounds_toArray, List.set_cons_zero, List.set_cons_succ]
          refine wpAnyH_take (i := 15) (oi := ⟨some 115, _, _, _, _, none⟩) (v := ?_) rfl (by kernel_rfl) (by kernel_rfl) (by kernel_rfl) (fun _ _ _ h => h) (Or.inl ⟨by rfl, ?_⟩) (by assumption) ?_
          rotate_left
          · intro w hSw; (try dsimp only at hSw); go_simp; (try with_reducible rfl)
          try simp only [Act.put, List.setIfInBounds_toArray, List.set_cons_zero, List.set_cons_succ]
          refine wpAnyH_take (i := 16) (oi := ⟨some 4, _, _, _, _, none⟩) (v := ?_) rfl (by kernel_rfl) (by kernel_rfl) (by kernel_rfl) (fun _ _ _ h => h) (Or.inl ⟨by rfl, ?_⟩) (by assumption) ?_
          rotate_left
          · intro w hSw; (try dsimp only at hSw); go_simp; (try with_reducible rfl)
          try simp only [Act.put, List.setIfInBounds_toArray, List.set_cons_zero, List.set_cons_succ]
          clear hHeld
          refine wpAnyH_done (by kernel_rfl) ?_ _
          refine NoPanic.normal ?_
          go_wp2_with fail
          go_ret
          exact ⟨rfl, B9.out⟩
        | some pa =>
          have GC : Hid (∀ j u, (L.flatMap Rg.enc)[j]? = some u → (wr.alloc (.cells #[] 37)).cell? (pa.add j) = some u) := rg_cells (hI.out.below (Go.Joins.below_alloc1 _ _))
          have GO : Hid (∀ u ∈ L.flatMap Rg.enc, u.oneCell' = true) := rg_one L
          have GL : Hid ((L.flatMap Rg.enc).length = nL * 6) := by show _ = _; rw [flat_len, HNL.out]
          have O0 : Hid ((wr.alloc (.cells #[] 37)).ownsRow wr.heap.size 37 6 (.slice (some ⟨wr.heap.size, 0, none⟩) 0 0) 0 []) := start_own wr
          have HZ0 : Hid (wr.heap.size ≤ (wr.alloc (.cells #[] 37)).heap.size) := by show _ ≤ _; rw [World.size_alloc]; omega
          have MX0 : Hid (0 + nL ≤ maxLen) := by show _ ≤ _; unfold maxLen; omega
          have BY0 : Hid ((0 + nL) * 32 ≤ 140737488355328) := by show _ ≤ _; omega
          go_wp2_with (at_builtin; refine wpList_append_own _ rfl _ _ 23 rfl wr.heap.size 37 i0 zrg 6 32 Try.underlying23 hi hz0 hz1 hz2 rfl (by decide) (.slice (some ⟨wr.heap.size, 0, none⟩) 0 0) 0 [] rfl O0.out pa nL c (L.flatMap Rg.enc) rfl GL.out GC.out GO.out MX0.out BY0.out HZ0.out ?_; intro v1 a0 hown hg hnil; have O1 : Hid (OwnL a0 wr.heap.size v1 L) := (by rw [Nat.zero_add, List.nil_append, ← HNL.out] at hown; exact hown); have BA : Hid (Below wr.heap.size wr a0) := below_grown (Go.Joins.below_alloc1 _ _) O0.out hg; clear hown hg hnil O0 HZ0 MX0 BY0 GC GO GL; obtain ⟨p9, c9, hv9, hc9, I9⟩ := own_readb O1.out; have I9' : Hid (IsL a0 wr.heap.size p9 L) := I9; rw [HNL.out] at hv9; subst hv9; clear I9 hc9 O1; have Xa0 : Hid (a0.heap[w.heap.size]? = some (.cells #[.int .i64 k1, .int .i64 k2, .int .i64 k3, .bool k4, .bool k5, .bool k6, .int .i64 k7] 57 (0, 0))) := (BA.out.block _ lw).trans Xa.out; have ca0 : a0.cell? ⟨w.heap.size, 0, none⟩ = some (.int .i64 k1) := Go.Joins.cell_of_block Xa0.out 0; have ca1 : a0.cell? ⟨w.heap.size, 1, none⟩ = some (.int .i64 k2) := Go.Joins.cell_of_block Xa0.out 1; have ca2 : a0.cell? ⟨w.heap.size, 2, none⟩ = some (.int .i64 k3) := Go.Joins.cell_of_block Xa0.out 2; have ca3 : a0.cell? ⟨w.heap.size, 3, none⟩ = some (.bool k4) := Go.Joins.cell_of_block Xa0.out 3; have ca4 : a0.cell? ⟨w.heap.size, 4, none⟩ = some (.bool k5) := Go.Joins.cell_of_block Xa0.out 4; have ca5 : a0.cell? ⟨w.heap.size, 5, none⟩ = some (.bool k6) := Go.Joins.cell_of_block Xa0.out 5; have ca6 : a0.cell? ⟨w.heap.size, 6, none⟩ = some (.int .i64 k7) := Go.Joins.cell_of_block Xa0.out 6; have caf0 : a0.frozen? ⟨w.heap.size, 0, none⟩ = false := Go.Joins.unfrozen_of_block Xa0.out 0; have la0 : w.heap.size < a0.heap.size := blk_lt Xa0.out)
          have IU : Hid (IsL (a0.setCell ⟨w.heap.size, 0, none⟩ (.int .i64 1)) (w.heap.size + 1) (some pa) L) := IsL.sc (hI.out.below BA.out) (by omega)
          have NU : Hid (IsL (a0.setCell ⟨w.heap.size, 0, none⟩ (.int .i64 1)) (w.heap.size + 1) p9 L) := IsL.sc (I9'.out.weak (by omega)) (by omega)
          have BU : Hid (Below w.heap.size w (a0.setCell ⟨w.heap.size, 0, none⟩ (.int .i64 1))) := (below_then hB.out BA.out).setCell (Nat.le_refl _) _
          have AU : Hid ((a0.setCell ⟨w.heap.size, 0, none⟩ (.int .i64 1)).heap[w.heap.size]? = some (.cells #[.int .i64 1, .int .i64 k2, .int .i64 k3, .bool k4, .bool k5, .bool k6, .int .i64 k7] 57 (0, 0))) := Go.Joins.block_setCell Xa0.out _
          have SU : Hid ((w.heap.size + 1) ≤ (a0.setCell ⟨w.heap.size, 0, none⟩ (.int .i64 1)).heap.size) := by show _ ≤ _; rw [World.size_setCell]; omega
          clear ca0 ca1 ca2 ca3 ca4 ca5 ca6 caf0 Xa Xa0 I9' BA la0
          generalize a0.setCell ⟨w.heap.size, 0, none⟩ (.int .i64 1) = u0 at IU NU BU AU SU ⊢
          refine (d1.out _ IU.out SU.out).mono ?_
          rintro e u1 ⟨p1, c1, rfl, hc1, hi1, hb1⟩
          have A1 : Hid (u1.heap[w.heap.size]? = some (.cells #[.int .i64 1, .int .i64 k2, .int .i64 k3, .bool k4, .bool k5, .bool k6, .int .i64 k7] 57 (0, 0))) := (hb1.block _ (blk_lt AU.out)).trans AU.out
          have B1 : Hid (Below w.heap.size w u1) := below_then BU.out hb1
          have J1 : Hid (IsL u1 (w.heap.size + 1) (some pa) L) := IU.out.below hb1
          have N1 : Hid (IsL u1 (w.heap.size + 1) p9 L) := NU.out.below hb1
          have I1 : Hid (IsL u1 (w.heap.size + 1) p1 X) := hi1
          have S1 : Hid ((w.heap.size + 1) ≤ u1.heap.size) := Nat.le_trans SU.out hb1.size
          have cn2 : Hid _ := cn.out p1 c1
          clear hc1 hi1 hb1 AU BU IU NU SU d1 cn
          by_cases z1 : E1 = 0
          rotate_left
          · have zb : (E1 != 0) = true := by simp [z1]
            clear z1 BK RT
            generalize X.length = nX
            go_wp2_with fail
            refine (AWH.out _).mono ?_
            rintro e u9 ⟨rfl, hb9⟩
            have B9 : Hid (Below w.heap.size w u9) := below_then B1.out hb9
            clear hb9
            go_wp2_with fail
            go_ret
            exact ⟨rfl, B9.out⟩
          have zb : (E1 != 0) = false := by simp [z1]
          obtain ⟨b1, b2, b3⟩ := BK.out z1
          obtain ⟨r1', r2', r3'⟩ := RT.out z1
          have d2 : Hid (∀ W : World, IsL W (w.heap.size + 1) p1 X → (w.heap.size + 1) ≤ W.heap.size → Calls Try.prog 13 #[.slice p1 X.length c1, .agg #[.int .i64 k2, .int .i64 k3]] W fun e w' => ∃ p' c', e = .returned (.tuple #[.slice p' L.length c', .int .i64 0]) ∧ L.length ≤ c' ∧ IsL w' (w.heap.size + 1) p' L ∧ Below W.heap.size W w') := fun W h hw => cut_outb (w.heap.size + 1) p1 c1 X (by have := LX.out; omega) k2 k3 0 L b1 b2 W h hw
          rw [b3] at cn2
          rw [HNL.out] at d2
          have lxx := LX.out
          obtain ⟨nX, hnX⟩ : ∃ n, X.length = n := ⟨_, rfl⟩
          rw [hnX] at d2 cn2 lxx ⊢
          have Z1 : Hid (E1 = 0) := z1
          clear hnX b1 b2 b3 BK RT z1
          have ca0 : u1.cell? ⟨w.heap.size, 0, none⟩ = some (.int .i64 1) := Go.Joins.cell_of_block A1.out 0
          have ca1 : u1.cell? ⟨w.heap.size, 1, none⟩ = some (.int .i64 k2) := Go.Joins.cell_of_block A1.out 1
          have ca2 : u1.cell? ⟨w.heap.size, 2, none⟩ = some (.int .i64 k3) := Go.Joins.cell_of_block A1.out 2
          have ca3 : u1.cell? ⟨w.heap.size, 3, none⟩ = some (.bool k4) := Go.Joins.cell_of_block A1.out 3
          have ca4 : u1.cell? ⟨w.heap.size, 4, none⟩ = some (.bool k5) := Go.Joins.cell_of_block A1.out 4
          have ca5 : u1.cell? ⟨w.heap.size, 5, none⟩ = some (.bool k6) := Go.Joins.cell_of_block A1.out 5
          have ca6 : u1.cell? ⟨w.heap.size, 6, none⟩ = some (.int .i64 k7) := Go.Joins.cell_of_block A1.out 6
          have l1 : w.heap.size < u1.heap.size := blk_lt A1.out
          go_wp2_with fail
          refine (d2.out _ I1.out S1.out).mono ?_
          rintro e u2 ⟨p2, c2, rfl, hc2, hi2, hb2⟩
          have AX : Hid (u2.heap[w.heap.size]? = some (.cells #[.int .i64 1, .int .i64 k2, .int .i64 k3, .bool k4, .bool k5, .bool k6, .int .i64 k7] 57 (0, 0))) := (hb2.block _ (blk_lt A1.out)).trans A1.out
          have B2 : Hid (Below w.heap.size w u2) := below_then B1.out hb2
          have J2 : Hid (IsL u2 (w.heap.size + 1) (some pa) L) := J1.out.below hb2
          have N2 : Hid (IsL u2 (w.heap.size + 1) p9 L) := N1.out.below hb2
          have I2 : Hid (IsL u2 (w.heap.size + 1) p1 X) := I1.out.below hb2
          have K2 : Hid (IsL u2 (w.heap.size + 1) p2 L) := hi2
          clear hc2 hi2 hb2 A1 B1 J1 N1 I1 S1 d2 l1 ca0 ca1 ca2 ca3 ca4 ca5 ca6
          go_wp2_with fail
          go_loopw [76] (fun x W => ∃ m : Nat, m ≤ nL ∧ x = .int .i64 m ∧ Hid (IsL W (w.heap.size + 1) p2 L) ∧ Hid (IsL W (w.heap.size + 1) p9 L) ∧ Hid (IsL W (w.heap.size + 1) (some pa) L) ∧ Hid (IsL W (w.heap.size + 1) p1 X) ∧ Hid (Below w.heap.size w W) ∧ Hid (W.heap[w.heap.size]? = some (.cells #[.int .i64 1, .int .i64 k2, .int .i64 k3, .bool k4, .bool k5, .bool k6, .int .i64 k7] 57 (0, 0)))) (fun x _ => nL - (intOf x).toNat)
          case atStart => exact ⟨0, by omega, rfl, K2, N2, J2, I2, B2, AX⟩
          case round =>
            obtain ⟨m, hm, rfl, hI5, hJ5, hK5, hX5, hB5, AX⟩ := hrel
            by_cases hlm : m < nL
            · have hd : decide ((m : Int) < (nL : Int)) = true := by simp; omega
              have m0 : (0 : Int) ≤ (m : Int) := by omega
              have m1 : (m : Int) < (nL : Int) := by omega
              obtain ⟨g, rfl, _, g2, gc⟩ := hI5.out m (by rw [HNL.out]; exact hlm)
              obtain ⟨g', rfl, _, g2', gc'⟩ := hJ5.out m (by rw [HNL.out]; exact hlm)
              obtain ⟨g'', hpa, _, g2'', gc''⟩ := hK5.out m (by rw [HNL.out]; exact hlm)
              have hpb := Option.some.inj hpa
              subst hpb
              clear hpa
              generalize L.getD m Rg.zero = rr at gc gc' gc''
              obtain ⟨r1, r2, r3, r4, r5, r6⟩ := rr
              have y0 : wr.cell? ⟨g, m * 6, none⟩ = some (.int .i64 r1) := gc 0 _ rfl
              have y1 : wr.cell? ⟨g, m * 6 + 1, none⟩ = some (.int .i64 r2) := gc 1 _ rfl
              have y2 : wr.cell? ⟨g, m * 6 + 2, none⟩ = some (.bool r3) := gc 2 _ rfl
              have y3 : wr.cell? ⟨g, m * 6 + 3, none⟩ = some (.bool r4) := gc 3 _ rfl
              have y4 : wr.cell? ⟨g, m * 6 + 4, none⟩ = some (.bool r5) := gc 4 _ rfl
              have y5 : wr.cell? ⟨g, m * 6 + 5, none⟩ = some (.int .i64 r6) := gc 5 _ rfl
              have z0 : wr.cell? ⟨g', m * 6, none⟩ = some (.int .i64 r1) := gc' 0 _ rfl
              have z1 : wr.cell? ⟨g', m * 6 + 1, none⟩ = some (.int .i64 r2) := gc' 1 _ rfl
              have z2 : wr.cell? ⟨g', m * 6 + 2, none⟩ = some (.bool r3) := gc' 2 _ rfl
              have z3 : wr.cell? ⟨g', m * 6 + 3, none⟩ = some (.bool r4) := gc' 3 _ rfl
              have z4 : wr.cell? ⟨g', m * 6 + 4, none⟩ = some (.bool r5) := gc' 4 _ rfl
              have z5 : wr.cell? ⟨g', m * 6 + 5, none⟩ = some (.int .i64 r6) := gc' 5 _ rfl
              have x0 : wr.cell? ⟨g'', m * 6, none⟩ = some (.int .i64 r1) := gc'' 0 _ rfl
              have x1 : wr.cell? ⟨g'', m * 6 + 1, none⟩ = some (.int .i64 r2) := gc'' 1 _ rfl
              have x2 : wr.cell? ⟨g'', m * 6 + 2, none⟩ = some (.bool r3) := gc'' 2 _ rfl
              have x3 : wr.cell? ⟨g'', m * 6 + 3, none⟩ = some (.bool r4) := gc'' 3 _ rfl
              have x4 : wr.cell? ⟨g'', m * 6 + 4, none⟩ = some (.bool r5) := gc'' 4 _ rfl
              have x5 : wr.cell? ⟨g'', m * 6 + 5, none⟩ = some (.int .i64 r6) := gc'' 5 _ rfl
              clear gc gc' gc''
              go_wp2_with fail
              go_quiet (fail)
              go_wp2_with fail
              go_roundw
              case rel => exact ⟨m + 1, by omega, by go_num, IsL.drewn hI5.out, IsL.drewn hJ5.out, IsL.drewn hK5.out, IsL.drewn hX5.out, below_drewn hB5.out, AX.out⟩
              case measure => simp [intOf]; omega
            · have hd : decide ((m : Int) < (nL : Int)) = false := by simp; omega
              go_wp2_with fail
              have x1 : wr.cell? ⟨w.heap.size, 1, none⟩ = some (.int .i64 k2) := Go.Joins.cell_of_block AX.out 1
              have x2 : wr.cell? ⟨w.heap.size, 2, none⟩ = some (.int .i64 k3) := Go.Joins.cell_of_block AX.out 2
              refine wp_region_noPanic ?_
              refine wp_region_held_drew (S := fun c => c.cell? ⟨w.heap.size, 1, none⟩ = some (.int .i64 k2) ∧ c.cell? ⟨w.heap.size, 2, none⟩ = some (.int .i64 k3)) (by kernel_rfl) ?_ (fun hHeld => ?_)
              · exact ⟨x1, x2⟩
              have BD : Hid (Below w.heap.size w wr.drew) := below_drewn (m := 1) hB5.out
              have ID : Hid (IsL wr.drew (w.heap.size + 1) p1 X) := hX5.out
              have XD : Hid (wr.drew.cell? ⟨w.heap.size, 1, none⟩ = some (.int .i64 k2) ∧ wr.drew.cell? ⟨w.heap.size, 2, none⟩ = some (.int .i64 k3) ∧ w.heap.size < wr.drew.heap.size) := ⟨x1, x2, blk_lt AX.out⟩
              clear x1 x2 AX hB5 hX5
              generalize wr.drew = U at BD ID XD hHeld ⊢
              refine wpAnyH_ready (rs := [0]) (by kernel_rfl) (by simp) ?_
              refine AllReadyH.cons (o := ⟨some 100, _, _, _, _, none⟩) rfl (fun K hK => ?_) AllReadyH.nil
              go_simp
              go_wp2_with (go_at_call 16; refine (AWH.out _).mono ?_; rintro e u8 ⟨rfl, hb8⟩)
              obtain ⟨y1, y2, ly⟩ := XD.out
              have B8 : Hid (Below w.heap.size w u8) := below_then BD.out hb8
              have I8 : Hid (IsL u8 (w.heap.size + 1) p1 X) := ID.out.below hb8
              have v1 : u8.cell? ⟨w.heap.size, 1, none⟩ = some (.int .i64 k2) := (hb8.cell (p := ⟨w.heap.size, 1, none⟩) ly).trans y1
              have v2 : u8.cell? ⟨w.heap.size, 2, none⟩ = some (.int .i64 k3) := (hb8.cell (p := ⟨w.heap.size, 2, none⟩) ly).trans y2
              have l8 : w.heap.size < u8.heap.size := Nat.lt_of_lt_of_le ly hb8.size
              clear hb8 y1 y2 ly XD BD ID hHeld
              refine hK.out _ _ ⟨v1, v2⟩ (fun hHeld => ?_)
              clear hK K
              try simp only [Act.put, List.setIfInBounds_toArray, List.set_cons_zero, List.set_cons_succ]
              refine wpAnyH_take (i := 1) (oi := ⟨some 101, _, _, _, _, none⟩) (v := ?_) rfl (by kernel_rfl) (by kernel_rfl) (by kernel_rfl) (fun _ _ _ h => h) (Or.inl ⟨by rfl, ?_⟩) (by assumption) ?_
              rotate_left
              · intro w hSw; (try dsimp only at hSw); go_simp; (try with_reducible rfl)
              try simp only [Act.put, List.setIfInBounds_toArray, List.set_cons_zero, List.set_cons_succ]
              refine wpAnyH_take (i := 2) (oi := ⟨some 102, _, _, _, _, some (1, true)⟩) (v := ?_) rfl (by kernel_rfl) (by kernel_rfl) (by kernel_rfl) (fun _ _ _ h => h) (Or.inl ⟨by rfl, ?_⟩) (by assumption) ?_
              rotate_left
              · intro w hSw; (try dsimp only at hSw); go_simp; (try with_reducible rfl)
              try simp only [Act.put, List.setIfInBounds_toArray, List.set_cons_zero, List.set_cons_succ]
              refine wpAnyH_take (i := 3) (oi := ⟨some 103, _, _, _, _, some (1, true)⟩) (v := ?_) rfl (by kernel_rfl) (by kernel_rfl) (by kernel_rfl) (fun _ _ _ h => h) (Or.inl ⟨by rfl, ?_⟩) (by assumption) ?_
              rotate_left
              · intro w hSw; (try dsimp only at hSw); go_simp; (try with_reducible rfl)
              try simp only [Act.put, List.setIfInBounds_toArray, List.set_cons_zero, List.set_cons_succ]
              refine wpAnyH_take (i := 4) (oi := ⟨some 104, _, _, _, _, some (1, true)⟩) (v := ?_) rfl (by kernel_rfl) (by kernel_rfl) (by kernel_rfl) (fun _ _ _ h => h) (Or.inl ⟨by rfl, ?_⟩) (by assumption) ?_
              rotate_left
              · intro w hSw; (try dsimp only at hSw); go_simp; (try with_reducible rfl)
              try simp only [Act.put, List.setIfInBounds_toArray, List.set_cons_zero, List.set_cons_succ]
              refine wpAnyH_take (i := 5) (oi := ⟨some 105, _, _, _, _, some (1, true)⟩) (v := ?_) rfl (by kernel_rfl) (by kernel_rfl) (by kernel_rfl) (fun _ _ _ h => h) (Or.inl ⟨by rfl, ?_⟩) (by assumption) ?_
              rotate_left
              · intro w hSw; (try dsimp only at hSw); go_simp; (try with_reducible rfl)
              try simp only [Act.put, List.setIfInBounds_toArray, List.set_cons_zero, List.set_cons_succ]
              refine wpAnyH_take (i := 6) (oi := ⟨some 106, _, _, _, _, some (1, true)⟩) (v := ?_) rfl (by kernel_rfl) (by kernel_rfl) (by kernel_rfl) (fun _ _ _ h => h) (Or.inl ⟨by rfl, ?_⟩) (by assumption) ?_
              rotate_left
              · intro w hSw; (try dsimp only at hSw); go_simp; (try with_reducible rfl)
              try simp only [Act.put, List.setIfInBounds_toArray, List.set_cons_zero, List.set_cons_succ]
              refine wpAnyH_take (i := 7) (oi := ⟨some 107, _, _, _, _, some (1, true)⟩) (v := ?_) rfl (by kernel_rfl) (by kernel_rfl) (by kernel_rfl) (fun _ _ _ h => h) (Or.inl ⟨by rfl, ?_⟩) (by assumption) ?_
              rotate_left
              · intro w hSw; (try dsimp only at hSw); go_simp; (try with_reducible rfl)
              try simp only [Act.put, List.setIfInBounds_toArray, List.set_cons_zero, List.set_cons_succ]
              refine wpAnyH_take (i := 9) (oi := ⟨some 109, _, _, _, _, some (1, true)⟩) (v := ?_) rfl (by kernel_rfl) (by kernel_rfl) (by kernel_rfl) (fun _ _ _ h => h) (Or.inl ⟨by rfl, ?_⟩) (by assumption) ?_
              rotate_left
              · intro w hSw; (try dsimp only at hSw); go_simp; (try with_reducible rfl)
              try simp only [Act.put, List.setIfInBounds_toArray, List.set_cons_zero, List.set_cons_succ]
              refine wpAnyH_take (i := 10) (oi := ⟨some 110, _, _, _, _, some (1, true)⟩) (v := ?_) rfl (by kernel_rfl) (by kernel_rfl) (by kernel_rfl) (fun _ _ _ h => h) (Or.inl ⟨by rfl, ?_⟩) (by assumption) ?_
              rotate_left
              · intro w hSw; (try dsimp only at hSw); go_simp; (try with_reducible rfl)
              try simp only [Act.put, List.setIfInBounds_toArray, List.set_cons_zero, List.set_cons_succ]
              refine wpAnyH_take (i := 11) (oi := ⟨some 111, _, _, _, _, some (1, true)⟩) (v := ?_) rfl (by kernel_rfl) (by kernel_rfl) (by kernel_rfl) (fun _ _ _ h => h) (Or.inl ⟨by rfl, ?_⟩) (by assumption) ?_
              rotate_left
              · intro w hSw; (try dsimp only at hSw); go_simp; (try with_reducible rfl)
              try simp only [Act.put, List.setIfInBounds_toArray, List.set_cons_zero, List.set_cons_succ]
              refine wpAnyH_take (i := 12) (oi := ⟨some 112, _, _, _, _, some (1, true)⟩) (v := ?_) rfl (by kernel_rfl) (by kernel_rfl) (by kernel_rfl) (fun _ _ _ h => h) (Or.inl ⟨by rfl, ?_⟩) (by assumption) ?_
              rotate_left
              · intro w hSw; (try dsimp only at hSw); go_simp; (try with_reducible rfl)
              try simp only [Act.put, List.setIfInBounds_toArray, List.set_cons_zero, List.set_cons_succ]
              refine wpAnyH_take (i := 13) (oi := ⟨some 113, _, _, _, _, some (1, true)⟩) (v := ?_) rfl (by kernel_rfl) (by kernel_rfl) (by kernel_rfl) (fun _ _ _ h => h) (Or.inl ⟨by rfl, ?_⟩) (by assumption) ?_
              rotate_left
              · intro w hSw; (try dsimp only at hSw); go_simp; (try with_reducible rfl)
              try simp only [Act.put, List.setIfInBounds_toArray, List.set_cons_zero, List.set_cons_succ]
              refine wpAnyH_ready (rs := [8]) (by kernel_rfl) (by simp) ?_
              refine AllReadyH.cons (o := ⟨some 108, _, _, _, _, some (1, true)⟩) rfl (fun K hK => ?_) AllReadyH.nil
              go_simp
              go_wp2_with (go_at_call 23; refine (cn2.out _ I8.out).mono ?_; rintro e u9 ⟨rfl, hb9⟩)
              have B9 : Hid (Below w.heap.size w u9) := below_then B8.out hb9
              have t1 : u9.cell? ⟨w.heap.size, 1, none⟩ = some (.int .i64 k2) := (hb9.cell (p := ⟨w.heap.size, 1, none⟩) l8).trans v1
              have t2 : u9.cell? ⟨w.heap.size, 2, none⟩ = some (.int .i64 k3) := (hb9.cell (p := ⟨w.heap.size, 2, none⟩) l8).trans v2
              clear hb9 v1 v2 l8 B8 I8 hHeld
              refine hK.out _ _ ⟨t1, t2⟩ (fun hHeld => ?_)
              clear hK K
              try simp only [Act.put, List.setIfInBounds_toArray, List.set_cons_zero, List.set_cons_succ]
              refine wpAnyH_take (i := 14) (oi := ⟨some 114, _, _, _, _, some (1, true)⟩) (v := .bool true) rfl (by kernel_rfl) (by kernel_rfl) (by kernel_rfl) (fun _ _ _ h => h) (Or.inl ⟨by rfl, ?_⟩) (by assumption) ?_
              · intro w hSw; (try dsimp only at hSw); go_simp; (try simp); (try (simp only [IntKind.wrap_i64]; omega))
              try simp only [Act.put, List.setIfInBounds_toArray, List.set_cons_zero, List.set_cons_succ]
              refine wpAnyH_take (i := 15) (oi := ⟨some 115, _, _, _, _, none⟩) (v := ?_) rfl (by kernel_rfl) (by kernel_rfl) (by kernel_rfl) (fun _ _ _ h => h) (Or.inl ⟨by rfl, ?_⟩) (by assumption) ?_
              rotate_left
              · intro w hSw; (try dsimp only at hSw); go_simp; (try with_reducible rfl)
              try simp only [Act.put, List.setIfInBounds_toArray, List.set_cons_zero, List.set_cons_succ]
              refine wpAnyH_take (i := 16) (oi := ⟨some 4, _, _, _, _, none⟩) (v := ?_) rfl (by kernel_rfl) (by kernel_rfl) (by kernel_rfl) (fun _ _ _ h => h) (Or.inl ⟨by rfl, ?_⟩) (by assumption) ?_
              rotate_left
              · intro w hSw; (try dsimp only at hSw); go_simp; (try with_reducible rfl)
              try simp only [Act.put, List.setIfInBounds_toArray, List.set_cons_zero, List.set_cons_succ]
              clear hHeld
              refine wpAnyH_done (by kernel_rfl) ?_ _
              refine NoPanic.normal ?_
              go_wp2_with fail
              go_ret
              exact ⟨rfl, B9.out⟩

theorem own : ownKnob Try.prog.godebug = none := by kernel_rfl
theorem laidOut : laidOutB Try.prog = true := by kernel_rfl
set_option maxRecDepth 100000 in
theorem lifted (os : Os) (started : os.Started) (H : Type) (enc : TypeId × Value → H) :
    ReturnsInHanded {} Try.checked os 6 .any (Rows.regionBackSpec.pre6 enc Try.prog Try.f6 Rows.regionBackRow.domain false) (Rows.regionBackSpec.post enc Try.prog Try.f6 false true false false) := by
  refine returnsInHanded_of_change (C := Try.checked) own started (by kernel_rfl) Try.func6
    (ChangeSpec.witness6 (enc := enc) (C := Try.checked) false ⟨#[], #[.slice none 0 0, .agg #[.int .i64 0, .int .i64 0, .int .i64 0, .bool false, .bool false, .bool false, .int .i64 0]], []⟩ 8 (by kernel_rfl) (by kernel_rfl) (by kernel_rfl) (by kernel_rfl)) ?_
  intro W base args ds gs before hval0 hW hcnd _
  have hval : ∀ (j : Nat) t v, Try.f6.params[j]? = some t → args[j]? = some v → Value.okWide Try.prog W .any base t v := hval0
  have hW' := hW
  obtain ⟨p, q, hA0, hV, hbef, hfz, hnd⟩ := hW
  have hA : DataW.TrodAll enc Try.prog W 0 (fun _ => true) true Try.f6.params.toList args.toList ds p := hA0
  have hAk := hA
  have hlt : ∀ x ∈ p, x.block < W.heap.size := fun x hx => hW'.lt x (by rw [hbef]; exact List.mem_append_left _ hx)
  rw [Try.params6] at hA hval
  obtain ⟨v0, vs0, d0, ds0, p0, q0, hargs, rfl, hp0, h0, r0⟩ := trodAll_cons hA
  obtain ⟨v1, vs1, d1, ds1, p1, q1, rfl, rfl, hp1, h1, r1⟩ := trodAll_cons r0
  obtain ⟨rfl, rfl, hpz⟩ := trodAll_nil r1
  obtain rfl : args = #[v0, v1] := by cases args; simp_all
  obtain ⟨rfl, rfl⟩ := trodVars_none hV
  obtain ⟨p0, n0, c0, A0, rfl, m0, H0⟩ := open_acts (hval 0 55 v0 rfl rfl) h0
  obtain ⟨a1, rfl, w1f, w1t⟩ := open_act (hval 1 57 v1 rfl rfl) h1
  clear hA0 hval0
  refine (walk p0 n0 c0 A0 m0 a1 w1f w1t W H0).mono fun e W' ⟨he, hg⟩ => ?_
  subst he
  exact ⟨_, rfl, ⟨_, _, _, [], p, [], hW', (trodAll_cons_mk (shut_bool Try.underlying4 _) trodAll_mk0), args_stay laidOut hg (by kernel_rfl) hAk hlt, rfl, hg.frame _, fun h => by cases h⟩⟩

theorem over : Rows.regionBackRow.holds Try.pinned (OpenSpec.ofChange Rows.regionBackSpec) :=
  OpenClaim.holds_of_wide 6 Try.f6 rfl rfl rfl rfl rfl rfl rfl ⟨rfl, rfl, rfl, rfl, rfl⟩ rfl rfl rfl rfl rfl (by kernel_rfl) Try.func6 (by kernel_rfl)
    (of_decide_eq_true (by kernel_rfl)) (by unfold Func.isWrapper; first | (rw [if_pos (by decide +kernel)]; kernel_rfl) | (rw [if_neg (by decide +kernel)]; exact ⟨rfl, rfl⟩))
    (fun os started H enc _ => lifted os started H enc)

theorem proved : Rows.RegionBackSaid :=
  over
#print axioms proved
end Go.Proofs.Ytngaodfajihmmaa.regionBack
