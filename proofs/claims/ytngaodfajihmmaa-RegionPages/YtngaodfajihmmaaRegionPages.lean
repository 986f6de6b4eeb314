/- For any changes and any page: behind each of any 40 changes the list is good, and the page is as the last change that was for it says; no condition. -/
import Derived.Test.YtngaodfajihmmaaRows
import Derived.ProofKit
import Derived.OpenShut
import Derived.Carry
import Derived.Test.YtngaodfajihmmaaG13
import Derived.Test.YtngaodfajihmmaaGP
import Derived.Deep.DeepCutAuto
namespace Go.Proofs.Ytngaodfajihmmaa.regionPages
open Go.ChangeShapes Go.WideShapes Go.ChangeAt Go.RowKit Go.Maps
set_option linter.unusedSimpArgs false
set_option linter.unusedVariables false
theorem bool_of {a : Option Att} {x : Att} {p q : Bool} {y : Att} (h1 : a = if p = true then some x else none) (h2 : a = if q = true then some y else none) : p = q ∧ (q = true → x = y) := by
  cases p <;> cases q
  · exact ⟨rfl, fun h => by cases h⟩
  · rw [h1] at h2; cases h2
  · rw [h1] at h2; cases h2
  · rw [h1] at h2; exact ⟨rfl, fun _ => Option.some.inj h2⟩
theorem IsL.sc {base b o : Nat} {X : World} {v : Value} {p : Option Addr} {B : List Rg} (h : IsL X base p B) (hb : b < base) : IsL (X.setCell ⟨b, o, none⟩ v) base p B := fun i hi => by
  obtain ⟨g, e, l1, l2, c⟩ := h i hi
  exact ⟨g, e, l1, by rw [World.size_setCell]; exact l2, fun j x hx => (World.cell?_of_block (w := X) (a := ⟨g, i * 6 + j, none⟩) (Below.heap_setCell _ _ _ _ (by show g ≠ b; omega))).trans (c j x hx)⟩
theorem IsL.scs {base b : Nat} {p : Option Addr} {B : List Rg} (hb : b < base) : ∀ (vs : List Value) (o : Nat) {X : World}, IsL X base p B → IsL (X.setCells b o vs) base p B
  | [], _, X, h => h
  | v :: r, o, X, h => by rw [World.setCells]; exact IsL.scs hb r (o + 1) (IsL.sc h hb)
theorem bel_scs {n b : Nat} {w : World} (hb : n ≤ b) : ∀ (vs : List Value) (o : Nat) {X : World}, Below n w X → Below n w (X.setCells b o vs)
  | [], _, X, h => h
  | v :: r, o, X, h => by rw [World.setCells]; exact bel_scs hb r (o + 1) (h.setCell hb v)
theorem pm_info : (Try.prog.info? 25).map (·.size) = some 3 := by kernel_rfl

set_option maxRecDepth 8000 in
set_option maxHeartbeats 16000000 in
theorem walk (p0 : Option Addr) (n0 c0 : Nat) (A0 : Nat → Ac) (m0 : n0 ≤ maxLen) (a1 : Int) (w1 : (Lit.int .i64 a1).wf = true) (w : World) (H0 : IsActs w p0 n0 A0) :
    Calls Try.prog 5 #[.slice p0 n0 c0, .int .i64 a1] w fun e w' => e = .returned (.bool true) ∧ Below w.heap.size w w' := by
  have AWH : Hid (∀ W : World, Calls Try.prog 16 #[] W fun e w' => e = .returned (.bool true) ∧ Below W.heap.size W w') := fun W => awake_any W
  have DC : Hid (∀ (L : List Rg), goodB L = true → ∀ (p : Option Addr) (c : Nat), L.length ≤ c → ∀ (a : Ac) (W : World), IsL W (w.heap.size + 1) p L → (w.heap.size + 1) ≤ W.heap.size → Calls Try.prog 25 #[.slice p L.length c, a.val] W fun e w' => ∃ p' c', e = .returned (.tuple #[.slice p' (actL L a).length c', .int .i64 (actE L a)]) ∧ (actL L a).length ≤ c' ∧ IsL w' (w.heap.size + 1) p' (actL L a) ∧ Below W.heap.size W w') := fun L g p c hc a W h hw => does_b (w.heap.size + 1) p c L (by have := (good_can g).2.2; omega) hc a W h hw
  have GC : Hid (∀ (L : List Rg), goodB L = true → ∀ (p : Option Addr) (c : Nat) (W : World), IsL W (w.heap.size + 1) p L → Calls Try.prog 21 #[.slice p L.length c] W fun e w' => e = .returned (.bool true) ∧ Below W.heap.size W w') := fun L g p c W h => by
    have := good_any (w.heap.size + 1) p c L (by have := (good_can g).2.2; omega) W h
    rw [g] at this; exact this
  have FC : Hid (∀ (L : List Rg), goodB L = true → ∀ (p : Option Addr) (c : Nat) (W : World), IsL W (w.heap.size + 1) p L → Calls Try.prog 19 #[.slice p L.length c, .int .i64 a1] W fun e w' => e = .returned (.tuple #[(findR L a1).1.val, .bool (findR L a1).2]) ∧ Below W.heap.size W w') := fun L g p c W h => find_any (w.heap.size + 1) p c L (by have := (good_can g).2.2; omega) a1 W h
  have HA : Hid (IsActs w p0 n0 A0) := H0
  clear H0
  have mm : (n0 : Int) ≤ 9223372036854775807 := by have : maxLen ≤ 9223372036854775807 := by decide +kernel
                                                   omega
  go_enter Try.func5, Try.ntmps5
  go_wp2_with fail
  go_loopw [5, 6, 8] (fun l h x W => ∃ (k : Nat) (L : List Rg) (p : Option Addr) (c : Nat) (hs : Bool) (x1 x2 x3 : Bool) (x4 : Int), k ≤ n0 ∧ k ≤ 40 ∧ l = .slice p L.length c ∧ h = .bool hs ∧ x = .int .i64 k ∧ Hid (goodB L = true) ∧ Hid (L.length ≤ c) ∧ Hid (IsL W (w.heap.size + 1) p L) ∧ Hid (Below w.heap.size w W) ∧ Hid (W.heap[w.heap.size]? = some (.cells #[.int .i64 0, .int .i64 0, .bool x1, .bool x2, .bool x3, .int .i64 x4] 37 (0, 0))) ∧ Hid (atR L a1 = if hs = true then some (x1, x2, x3, x4) else none)) (fun _ _ x _ => 40 - (intOf x).toNat)
  case atStart => exact ⟨0, [], none, 0, false, false, false, false, 0, by omega, by omega, rfl, rfl, rfl, rfl, Nat.le_refl _, nil_isb _ _, Go.Joins.below_alloc1 _ _, own1 w _, rfl⟩
  case round =>
    obtain ⟨k, L, p, c, hs, x1, x2, x3, x4, hk, hk3, rfl, rfl, rfl, hG, hC, hI, hB, hW, hAt⟩ := hrel
    by_cases hlt : k < n0 ∧ k < 40
    · have hd : decide ((k : Int) < (n0 : Int)) = true := by simp; omega
      have hd2 : decide ((k : Int) < 40) = true := by simp; omega
      obtain ⟨b, o, rfl, lb, cc, _, _⟩ := HA.out k hlt.1
      generalize A0 k = a at cc
      have GD : Hid (goodB (actL L a) = true) := act_good hG.out a
      have R1 : Hid (actE L a = 0 → a.how = 1 → atR (actL L a) a1 = (if a.fr ≤ a1 ∧ a1 < a.til then some (a.w, a.u, a.x, a.kd) else atR L a1) ∧ (a.fr ≤ a1 ∧ a1 < a.til → atR L a1 = none)) := fun q1 q2 => act_add hG.out q1 q2 a1
      have R2 : Hid (actE L a = 0 → a.how = 2 → atR (actL L a) a1 = if a.fr ≤ a1 ∧ a1 < a.til then none else atR L a1) := fun q1 q2 => act_cut hG.out q1 q2 a1
      have R3 : Hid (actE L a = 0 → a.how = 3 → atR (actL L a) a1 = (if a.fr ≤ a1 ∧ a1 < a.til then (atR L a1).bind (fun v => some (a.w, a.u, a.x, v.2.2.2)) else atR L a1) ∧ (a.fr ≤ a1 ∧ a1 < a.til → atR L a1 ≠ none)) := fun q1 q2 => act_prot hG.out q1 q2 a1
      have R0 : Hid (actE L a ≠ 0 → atR (actL L a) a1 = atR L a1) := fun q => by rw [act_not q]
      have HW3 : Hid (actE L a = 0 → a.how = 1 ∨ a.how = 2 ∨ a.how = 3) := fun q => by
        rcases (act_cases q).2.2 with q | q | q
        · exact Or.inl q.1
        · exact Or.inr (Or.inl q.1)
        · exact Or.inr (Or.inr q.1)
      have D1 : Hid _ := DC.out L hG.out p c hC.out a
      have G1 : Hid _ := GC.out (actL L a) GD.out
      have F1 : Hid _ := FC.out (actL L a) GD.out
      have FA := find_at a1 (actL L a)
      have FA' : Hid _ := FA
      clear FA
      generalize actE L a = E at R0 R1 R2 R3 HW3 D1
      generalize actL L a = L2 at GD R0 R1 R2 R3 D1 G1 F1 FA'
      obtain ⟨h1, h2, h3, h4, h5, h6, h7⟩ := a
      simp only at R1 R2 R3 HW3
      have y0 : wr.cell? ⟨b, o + k * 7, none⟩ = some (.int .i64 h1) := (hB.out.cell (p := ⟨b, _, none⟩) lb).trans (cc 0 _ rfl)
      have y1 : wr.cell? ⟨b, o + k * 7 + 1, none⟩ = some (.int .i64 h2) := (hB.out.cell (p := ⟨b, _, none⟩) lb).trans (cc 1 _ rfl)
      have y2 : wr.cell? ⟨b, o + k * 7 + 2, none⟩ = some (.int .i64 h3) := (hB.out.cell (p := ⟨b, _, none⟩) lb).trans (cc 2 _ rfl)
      have y3 : wr.cell? ⟨b, o + k * 7 + 3, none⟩ = some (.bool h4) := (hB.out.cell (p := ⟨b, _, none⟩) lb).trans (cc 3 _ rfl)
      have y4 : wr.cell? ⟨b, o + k * 7 + 4, none⟩ = some (.bool h5) := (hB.out.cell (p := ⟨b, _, none⟩) lb).trans (cc 4 _ rfl)
      have y5 : wr.cell? ⟨b, o + k * 7 + 5, none⟩ = some (.bool h6) := (hB.out.cell (p := ⟨b, _, none⟩) lb).trans (cc 5 _ rfl)
      have y6 : wr.cell? ⟨b, o + k * 7 + 6, none⟩ = some (.int .i64 h7) := (hB.out.cell (p := ⟨b, _, none⟩) lb).trans (cc 6 _ rfl)
      clear cc
      have lbw : b < wr.heap.size := Nat.lt_of_lt_of_le lb hB.out.size
      have lx : w.heap.size < wr.heap.size := blk_lt hW.out
      generalize hLn : L.length = nL at D1 ⊢
      have IA : Hid (IsL (wr.alloc (.cells #[.int .i64 h1, .int .i64 h2, .int .i64 h3, .bool h4, .bool h5, .bool h6, .int .i64 h7] 57)) (w.heap.size + 1) p L) := hI.out.below (Go.Joins.below_alloc1 _ _)
      go_wp2_with fail
      refine (D1.out _ IA.out (by rw [World.size_alloc]; omega)).mono ?_
      rintro e u1 ⟨p1, c1, rfl, hc1, hi1, hb1⟩
      have BW : Hid (Below wr.heap.size wr u1) := below_then (Go.Joins.below_alloc1 _ _) hb1
      have FB : Hid (u1.heap[wr.heap.size]? = some (.cells #[.int .i64 h1, .int .i64 h2, .int .i64 h3, .bool h4, .bool h5, .bool h6, .int .i64 h7] 57 (0, 0))) := (hb1.block _ (by rw [World.size_alloc]; omega)).trans (own1 wr _)
      have FW : Hid (u1.heap[w.heap.size]? = some (.cells #[.int .i64 0, .int .i64 0, .bool x1, .bool x2, .bool x3, .int .i64 x4] 37 (0, 0))) := (BW.out.block _ lx).trans hW.out
      have B1 : Hid (Below w.heap.size w u1) := below_then hB.out BW.out
      have I1 : Hid (IsL u1 (w.heap.size + 1) p1 L2) := hi1
      have Cc : Hid (L2.length ≤ c1) := hc1
      clear hb1 hi1 hc1 BW hI hB hW IA y0 y1 y2 y3 y4 y5 y6 D1
      generalize wr.heap.size = s at FB lx ⊢
      have G2 : Hid _ := G1.out p1 c1
      have F2 : Hid _ := F1.out p1 c1
      clear G1 F1
      obtain ⟨nL2, hn2⟩ : ∃ n, L2.length = n := ⟨_, rfl⟩
      rw [hn2] at G2 F2 ⊢
      have HN2 : Hid (L2.length = nL2) := hn2
      clear hn2
      obtain ⟨⟨⟨f1, f2, f3, f4, f5, f6⟩, ok⟩, hff⟩ : ∃ ff, findR L2 a1 = ff := ⟨_, rfl⟩
      rw [hff] at F2 FA'
      simp only at F2 FA'
      clear hff
      go_wp2_with fail
      refine (G2.out _ I1.out).mono ?_
      rintro e u2 ⟨rfl, hb2⟩
      have FB2 : Hid (u2.heap[s]? = some (.cells #[.int .i64 h1, .int .i64 h2, .int .i64 h3, .bool h4, .bool h5, .bool h6, .int .i64 h7] 57 (0, 0))) := (hb2.block _ (blk_lt FB.out)).trans FB.out
      have FW2 : Hid (u2.heap[w.heap.size]? = some (.cells #[.int .i64 0, .int .i64 0, .bool x1, .bool x2, .bool x3, .int .i64 x4] 37 (0, 0))) := (hb2.block _ (blk_lt FW.out)).trans FW.out
      have B2 : Hid (Below w.heap.size w u2) := below_then B1.out hb2
      have I2 : Hid (IsL u2 (w.heap.size + 1) p1 L2) := I1.out.below hb2
      clear hb2 FB FW B1 I1 G2
      have z0 : u2.cell? ⟨s, 0, none⟩ = some (.int .i64 h1) := Go.Joins.cell_of_block FB2.out 0
      have z1 : u2.cell? ⟨s, 1, none⟩ = some (.int .i64 h2) := Go.Joins.cell_of_block FB2.out 1
      have z2 : u2.cell? ⟨s, 2, none⟩ = some (.int .i64 h3) := Go.Joins.cell_of_block FB2.out 2
      have z3 : u2.cell? ⟨s, 3, none⟩ = some (.bool h4) := Go.Joins.cell_of_block FB2.out 3
      have z4 : u2.cell? ⟨s, 4, none⟩ = some (.bool h5) := Go.Joins.cell_of_block FB2.out 4
      have z5 : u2.cell? ⟨s, 5, none⟩ = some (.bool h6) := Go.Joins.cell_of_block FB2.out 5
      have z6 : u2.cell? ⟨s, 6, none⟩ = some (.int .i64 h7) := Go.Joins.cell_of_block FB2.out 6
      have ls : s < u2.heap.size := blk_lt FB2.out
      have lw : w.heap.size < u2.heap.size := blk_lt FW2.out
      go_upto_region 12 with fail
      go_cut [52] (fun cc wx => ∃ bq : Bool, cc = .bool bq ∧ (bq = true → E = 0 ∧ h2 ≤ a1 ∧ a1 < h3) ∧ (bq = false → ¬ (E = 0 ∧ h2 ≤ a1 ∧ a1 < h3)) ∧ wx = u2)
      case first =>
        clear R0 R1 R2 R3 HW3
        by_cases ez : E = 0
        rotate_left
        · have eb : (E == 0) = false := by simp [ez]
          go_wp2_with fail
          go_meet
          exact ⟨_, rfl, (fun q => by cases q), (fun _ q => ez q.1), rfl⟩
        have eb : (E == 0) = true := by simp [ez]
        have E0 : Hid (E = 0) := ez
        clear ez
        by_cases q1 : h2 ≤ a1
        rotate_left
        · have qb : decide (h2 ≤ a1) = false := by simp [q1]
          go_wp2_with fail
          go_meet
          exact ⟨_, rfl, (fun q => by cases q), (fun _ q => by have := q.2.1; omega), rfl⟩
        have qb : decide (h2 ≤ a1) = true := by simp [q1]
        by_cases q2 : a1 < h3
        rotate_left
        · have qc : decide (a1 < h3) = false := by simp [q2]
          go_wp2_with fail
          go_meet
          exact ⟨_, rfl, (fun q => by cases q), (fun _ q => by have := q.2.2; omega), rfl⟩
        have qc : decide (a1 < h3) = true := by simp [q2]
        go_wp2_with fail
        go_meet
        exact ⟨_, rfl, (fun _ => ⟨E0.out, q1, q2⟩), (fun q => by cases q), rfl⟩
      case rest =>
        obtain ⟨bq, rfl, hq1, hq2, ew⟩ := hcut
        have ew2 := ew.symm
        subst ew2
        clear ew
        have Q1 : Hid (bq = true → E = 0 ∧ h2 ≤ a1 ∧ a1 < h3) := hq1
        have Q2 : Hid (bq = false → ¬ (E = 0 ∧ h2 ≤ a1 ∧ a1 < h3)) := hq2
        clear hq1 hq2
        go_upto_if 52 with fail
        go_cut [6] (fun hh wx => ∃ (hs2 v1 v2 v3 : Bool) (v4 : Int), hh = .bool hs2 ∧ Hid (Below w.heap.size w wx) ∧ Hid (IsL wx (w.heap.size + 1) p1 L2) ∧ Hid (wx.heap[w.heap.size]? = some (.cells #[.int .i64 0, .int .i64 0, .bool v1, .bool v2, .bool v3, .int .i64 v4] 37 (0, 0))) ∧ Hid (atR L2 a1 = if hs2 = true then some (v1, v2, v3, v4) else none))
        case first =>
          cases bq
          · have NO := Q2.out rfl
            have EQ : atR L2 a1 = atR L a1 := by
              by_cases ez : E = 0
              · rcases HW3.out ez with e | e | e
                · rw [(R1.out ez e).1, if_neg (fun i => NO ⟨ez, i⟩)]
                · rw [R2.out ez e, if_neg (fun i => NO ⟨ez, i⟩)]
                · rw [(R3.out ez e).1, if_neg (fun i => NO ⟨ez, i⟩)]
              · exact R0.out ez
            have AT : Hid (atR L2 a1 = if hs = true then some (x1, x2, x3, x4) else none) := by show _ = _; rw [EQ]; exact hAt.out
            clear R0 R1 R2 R3 HW3 hAt EQ NO
            go_wp2_with fail
            go_meet
            exact ⟨hs, x1, x2, x3, x4, rfl, B2, I2, FW2, AT⟩
          · obtain ⟨ez, q1, q2⟩ := Q1.out rfl
            rcases HW3.out ez with e | e | e
            · obtain ⟨s1, s2⟩ := R1.out ez e
              rw [if_pos ⟨q1, q2⟩] at s1
              have hf : hs = false := by
                have := hAt.out
                rw [s2 ⟨q1, q2⟩] at this
                cases hs
                · rfl
                · cases this
              have AT : Hid (atR L2 a1 = if true = true then some (h4, h5, h6, h7) else none) := by show _ = _; rw [if_pos rfl]; exact s1
              have TH : Hid (u2.there w.heap.size 0 6) := there_block FW2.out
              subst hf e
              have E0 : Hid (E = 0) := ez
              clear R0 R1 R2 R3 HW3 hAt s1 s2 ez q1 q2
              have wc0 : u2.cell? ⟨w.heap.size, 0, none⟩ = some (.int .i64 0) := Go.Joins.cell_of_block FW2.out 0
              have wf0 : u2.frozen? ⟨w.heap.size, 0, none⟩ = false := Go.Joins.unfrozen_of_block FW2.out 0
              have wc1 : u2.cell? ⟨w.heap.size, 1, none⟩ = some (.int .i64 0) := Go.Joins.cell_of_block FW2.out 1
              have wf1 : u2.frozen? ⟨w.heap.size, 1, none⟩ = false := Go.Joins.unfrozen_of_block FW2.out 1
              have wc2 : u2.cell? ⟨w.heap.size, 2, none⟩ = some (.bool x1) := Go.Joins.cell_of_block FW2.out 2
              have wf2 : u2.frozen? ⟨w.heap.size, 2, none⟩ = false := Go.Joins.unfrozen_of_block FW2.out 2
              have wc3 : u2.cell? ⟨w.heap.size, 3, none⟩ = some (.bool x2) := Go.Joins.cell_of_block FW2.out 3
              have wf3 : u2.frozen? ⟨w.heap.size, 3, none⟩ = false := Go.Joins.unfrozen_of_block FW2.out 3
              have wc4 : u2.cell? ⟨w.heap.size, 4, none⟩ = some (.bool x3) := Go.Joins.cell_of_block FW2.out 4
              have wf4 : u2.frozen? ⟨w.heap.size, 4, none⟩ = false := Go.Joins.unfrozen_of_block FW2.out 4
              have wc5 : u2.cell? ⟨w.heap.size, 5, none⟩ = some (.int .i64 x4) := Go.Joins.cell_of_block FW2.out 5
              have wf5 : u2.frozen? ⟨w.heap.size, 5, none⟩ = false := Go.Joins.unfrozen_of_block FW2.out 5
              have nsw : ¬ s = w.heap.size := by omega
              go_wp2_with fail
              change Met _ _ (u2.setCells w.heap.size 0 [.int .i64 0, .int .i64 0, .bool h4, .bool h5, .bool h6, .int .i64 h7])
              go_meet
              exact ⟨true, h4, h5, h6, h7, rfl, bel_scs (Nat.le_refl _) _ _ B2.out, IsL.scs (Nat.lt_succ_self _) _ _ I2.out, Go.Joins.block_setCell (Go.Joins.block_setCell (Go.Joins.block_setCell (Go.Joins.block_setCell (Go.Joins.block_setCell (Go.Joins.block_setCell FW2.out _) _) _) _) _) _, AT⟩
            · have s1 := R2.out ez e
              rw [if_pos ⟨q1, q2⟩] at s1
              have AT : Hid (atR L2 a1 = if false = true then some (x1, x2, x3, x4) else none) := by show _ = _; rw [if_neg (by simp)]; exact s1
              subst e
              clear R0 R1 R2 R3 HW3 hAt s1 ez q1 q2
              go_wp2_with fail
              go_meet
              exact ⟨false, x1, x2, x3, x4, rfl, B2, I2, FW2, AT⟩
            · obtain ⟨s1, s2⟩ := R3.out ez e
              rw [if_pos ⟨q1, q2⟩] at s1
              have hf : hs = true := by
                have := hAt.out
                cases hs
                · exact absurd this (s2 ⟨q1, q2⟩)
                · rfl
              have AT : Hid (atR L2 a1 = if true = true then some (h4, h5, h6, x4) else none) := by
                show _ = _
                have := hAt.out
                rw [hf, if_pos rfl] at this
                rw [s1, this]; rfl
              have TH : Hid (u2.there w.heap.size 2 3) := fun j hj => (by have := there_block FW2.out (2 + j) (by show 2 + j < 6; omega); rw [Nat.zero_add] at this; exact this)
              subst hf e
              clear R0 R1 R2 R3 HW3 hAt s1 s2 ez q1 q2
              have wc2 : u2.cell? ⟨w.heap.size, 2, none⟩ = some (.bool x1) := Go.Joins.cell_of_block FW2.out 2
              have wf2 : u2.frozen? ⟨w.heap.size, 2, none⟩ = false := Go.Joins.unfrozen_of_block FW2.out 2
              have wc3 : u2.cell? ⟨w.heap.size, 3, none⟩ = some (.bool x2) := Go.Joins.cell_of_block FW2.out 3
              have wf3 : u2.frozen? ⟨w.heap.size, 3, none⟩ = false := Go.Joins.unfrozen_of_block FW2.out 3
              have wc4 : u2.cell? ⟨w.heap.size, 4, none⟩ = some (.bool x3) := Go.Joins.cell_of_block FW2.out 4
              have wf4 : u2.frozen? ⟨w.heap.size, 4, none⟩ = false := Go.Joins.unfrozen_of_block FW2.out 4
              have nsw : ¬ s = w.heap.size := by omega
              go_wp2_with fail
              change Met _ _ (u2.setCells w.heap.size 2 [.bool h4, .bool h5, .bool h6])
              go_meet
              exact ⟨true, h4, h5, h6, x4, rfl, bel_scs (Nat.le_refl _) _ _ B2.out, IsL.scs (Nat.lt_succ_self _) _ _ I2.out, Go.Joins.block_setCell (Go.Joins.block_setCell (Go.Joins.block_setCell FW2.out _) _) _, AT⟩
        case rest =>
          obtain ⟨hs2, v1, v2, v3, v4, rfl, B5, I5, FW5, AT⟩ := hcut
          obtain ⟨bo1, bo2⟩ := bool_of FA'.out AT.out
          subst bo1
          clear R0 R1 R2 R3 HW3 hAt FW2 B2 I2 FB2 z0 z1 z2 z3 z4 z5 z6 ls lw Q1 Q2
          cases ok
          · clear bo2
            go_wp2_with fail
            refine (F2.out _ I5.out).mono ?_
            rintro e u7 ⟨rfl, hb7⟩
            have FW7 : Hid (u7.heap[w.heap.size]? = some (.cells #[.int .i64 0, .int .i64 0, .bool v1, .bool v2, .bool v3, .int .i64 v4] 37 (0, 0))) := (hb7.block _ (blk_lt FW5.out)).trans FW5.out
            have v0 : u7.cell? ⟨w.heap.size, 2, none⟩ = some (.bool v1) := Go.Joins.cell_of_block FW7.out 2
            have v1' : u7.cell? ⟨w.heap.size, 3, none⟩ = some (.bool v2) := Go.Joins.cell_of_block FW7.out 3
            have v2' : u7.cell? ⟨w.heap.size, 4, none⟩ = some (.bool v3) := Go.Joins.cell_of_block FW7.out 4
            have v3' : u7.cell? ⟨w.heap.size, 5, none⟩ = some (.int .i64 v4) := Go.Joins.cell_of_block FW7.out 5
            have lw7 : w.heap.size < u7.heap.size := blk_lt FW7.out
            have X7 : Hid (IsL (u7.alloc (.cells #[.int .i64 f1, .int .i64 f2, .bool f3, .bool f4, .bool f5, .int .i64 f6] 37)) (w.heap.size + 1) p1 L2 ∧ Below w.heap.size w (u7.alloc (.cells #[.int .i64 f1, .int .i64 f2, .bool f3, .bool f4, .bool f5, .int .i64 f6] 37)) ∧ (u7.alloc (.cells #[.int .i64 f1, .int .i64 f2, .bool f3, .bool f4, .bool f5, .int .i64 f6] 37)).heap[w.heap.size]? = some (.cells #[.int .i64 0, .int .i64 0, .bool v1, .bool v2, .bool v3, .int .i64 v4] 37 (0, 0))) := ⟨(I5.out.below hb7).below (Go.Joins.below_alloc1 _ _), below_new (below_then B5.out hb7) _, ((Go.Joins.below_alloc1 u7 _).block _ lw7).trans FW7.out⟩
            clear hb7 FW7 FW5 B5 I5
            go_wp2_with fail
            go_roundw
            case rel => exact ⟨k + 1, L2, p1, c1, false, v1, v2, v3, v4, by omega, by omega, by rw [HN2.out], rfl, by go_num, GD, Cc, X7.out.1, X7.out.2.1, X7.out.2.2, AT⟩
            case measure => simp [intOf]; omega
          · have be := bo2 rfl
            unfold Rg.att at be
            simp only [Prod.mk.injEq] at be
            obtain ⟨be1, be2, be3, be4⟩ := be
            subst be1 be2 be3 be4
            clear bo2
            go_wp2_with fail
            refine (F2.out _ I5.out).mono ?_
            rintro e u7 ⟨rfl, hb7⟩
            have FW7 : Hid (u7.heap[w.heap.size]? = some (.cells #[.int .i64 0, .int .i64 0, .bool f3, .bool f4, .bool f5, .int .i64 f6] 37 (0, 0))) := (hb7.block _ (blk_lt FW5.out)).trans FW5.out
            have v0 : u7.cell? ⟨w.heap.size, 2, none⟩ = some (.bool f3) := Go.Joins.cell_of_block FW7.out 2
            have v1' : u7.cell? ⟨w.heap.size, 3, none⟩ = some (.bool f4) := Go.Joins.cell_of_block FW7.out 3
            have v2' : u7.cell? ⟨w.heap.size, 4, none⟩ = some (.bool f5) := Go.Joins.cell_of_block FW7.out 4
            have v3' : u7.cell? ⟨w.heap.size, 5, none⟩ = some (.int .i64 f6) := Go.Joins.cell_of_block FW7.out 5
            have lw7 : w.heap.size < u7.heap.size := blk_lt FW7.out
            have X7 : Hid (IsL (u7.alloc (.cells #[.int .i64 f1, .int .i64 f2, .bool f3, .bool f4, .bool f5, .int .i64 f6] 37)) (w.heap.size + 1) p1 L2 ∧ Below w.heap.size w (u7.alloc (.cells #[.int .i64 f1, .int .i64 f2, .bool f3, .bool f4, .bool f5, .int .i64 f6] 37)) ∧ (u7.alloc (.cells #[.int .i64 f1, .int .i64 f2, .bool f3, .bool f4, .bool f5, .int .i64 f6] 37)).heap[w.heap.size]? = some (.cells #[.int .i64 0, .int .i64 0, .bool f3, .bool f4, .bool f5, .int .i64 f6] 37 (0, 0))) := ⟨(I5.out.below hb7).below (Go.Joins.below_alloc1 _ _), below_new (below_then B5.out hb7) _, ((Go.Joins.below_alloc1 u7 _).block _ lw7).trans FW7.out⟩
            clear hb7 FW7 FW5 B5 I5
            go_wp2_with fail
            go_roundw
            case rel => exact ⟨k + 1, L2, p1, c1, true, f3, f4, f5, f6, by omega, by omega, by rw [HN2.out], rfl, by go_num, GD, Cc, X7.out.1, X7.out.2.1, X7.out.2.2, AT⟩
            case measure => simp [intOf]; omega
    · clear hI hG hC hW DC GC FC HA
      generalize L.length = nL
      by_cases hq : k < n0
      · have hd : decide ((k : Int) < (n0 : Int)) = true := by simp; omega
        have hd2 : decide ((k : Int) < 40) = false := by simp; omega
        go_wp2_with fail
        refine (AWH.out _).mono ?_
        rintro e u1 ⟨rfl, hb1⟩
        have B1 : Hid (Below w.heap.size w u1) := below_then hB.out hb1
        clear hb1
        go_wp2_with fail
        go_ret
        exact ⟨rfl, B1.out⟩
      · have hd : decide ((k : Int) < (n0 : Int)) = false := by simp; omega
        go_wp2_with fail
        refine (AWH.out _).mono ?_
        rintro e u1 ⟨rfl, hb1⟩
        have B1 : Hid (Below w.heap.size w u1) := below_then hB.out hb1
        clear hb1
        go_wp2_with fail
        go_ret
        exact ⟨rfl, B1.out⟩

theorem own : ownKnob Try.prog.godebug = none := by kernel_rfl
theorem laidOut : laidOutB Try.prog = true := by kernel_rfl
set_option maxRecDepth 100000 in
theorem lifted (os : Os) (started : os.Started) (H : Type) (enc : TypeId × Value → H) :
    ReturnsInHanded {} Try.checked os 5 .any (Rows.regionPagesSpec.pre6 enc Try.prog Try.f5 Rows.regionPagesRow.domain false) (Rows.regionPagesSpec.post enc Try.prog Try.f5 false true false false) := by
  refine returnsInHanded_of_change (C := Try.checked) own started (by kernel_rfl) Try.func5
    (ChangeSpec.witness6 (enc := enc) (C := Try.checked) false ⟨#[], #[.slice none 0 0, .int .i64 0], []⟩ 8 (by kernel_rfl) (by kernel_rfl) (by kernel_rfl) (by kernel_rfl)) ?_
  intro W base args ds gs before hval0 hW hcnd _
  have hval : ∀ (j : Nat) t v, Try.f5.params[j]? = some t → args[j]? = some v → Value.okWide Try.prog W .any base t v := hval0
  have hW' := hW
  obtain ⟨p, q, hA0, hV, hbef, hfz, hnd⟩ := hW
  have hA : DataW.TrodAll enc Try.prog W 0 (fun _ => true) true Try.f5.params.toList args.toList ds p := hA0
  have hAk := hA
  have hlt : ∀ x ∈ p, x.block < W.heap.size := fun x hx => hW'.lt x (by rw [hbef]; exact List.mem_append_left _ hx)
  rw [Try.params5] at hA hval
  obtain ⟨v0, vs0, d0, ds0, p0, q0, hargs, rfl, hp0, h0, r0⟩ := trodAll_cons hA
  obtain ⟨v1, vs1, d1, ds1, p1, q1, rfl, rfl, hp1, h1, r1⟩ := trodAll_cons r0
  obtain ⟨rfl, rfl, hpz⟩ := trodAll_nil r1
  obtain rfl : args = #[v0, v1] := by cases args; simp_all
  obtain ⟨rfl, rfl⟩ := trodVars_none hV
  obtain ⟨p0, n0, c0, A0, rfl, m0, H0⟩ := open_acts (hval 0 55 v0 rfl rfl) h0
  obtain ⟨a1, rfl, _, _, w1⟩ := open_int Try.underlying3 (hval 1 3 v1 rfl rfl) h1
  clear hA0 hval0
  refine (walk p0 n0 c0 A0 m0 a1 w1 W H0).mono fun e W' ⟨he, hg⟩ => ?_
  subst he
  exact ⟨_, rfl, ⟨_, _, _, [], p, [], hW', (trodAll_cons_mk (shut_bool Try.underlying4 _) trodAll_mk0), args_stay laidOut hg (by kernel_rfl) hAk hlt, rfl, hg.frame _, fun h => by cases h⟩⟩

theorem over : Rows.regionPagesRow.holds Try.pinned (OpenSpec.ofChange Rows.regionPagesSpec) :=
  OpenClaim.holds_of_wide 5 Try.f5 rfl rfl rfl rfl rfl rfl rfl ⟨rfl, rfl, rfl, rfl, rfl⟩ rfl rfl rfl rfl rfl (by kernel_rfl) Try.func5 (by kernel_rfl)
    (of_decide_eq_true (by kernel_rfl)) (by unfold Func.isWrapper; first | (rw [if_pos (by decide +kernel)]; kernel_rfl) | (rw [if_neg (by decide +kernel)]; exact ⟨rfl, rfl⟩))
    (fun os started H enc _ => lifted os started H enc)

theorem proved : Rows.RegionPagesSaid :=
  over
#print axioms proved
end Go.Proofs.Ytngaodfajihmmaa.regionPages
