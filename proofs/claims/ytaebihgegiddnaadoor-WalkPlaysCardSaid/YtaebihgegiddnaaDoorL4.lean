/- Lay, for any entries. -/
import Derived.Test.YtaebihgegiddnaaDoorL3
import Derived.Sort.BigQuietIn
namespace Go.Proofs.YtaebihgegiddnaaDoor
open Go.ChangeShapes Go.WideShapes Go.ChangeAt Go.RowKit Go.Maps
set_option linter.unusedSimpArgs false
set_option linter.unusedVariables false
set_option maxRecDepth 8000

theorem Play.cells {w W : World} {K : Nat → Prop} {S : List Nat} {rb : Nat} {F : Int} {hs : List (Int × Int)} {g cap mbx xb : Nat} {M M2 : Int → Int} {n m : Nat} (h : Play w W K S rb F hs g cap mbx xb M M2 n m) : W.cell? ⟨xb, 0, none⟩ = some (.int .i64 F) ∧ W.cell? ⟨xb, 1, none⟩ = some (.slice (some ⟨g, 0, none⟩) hs.length cap) ∧ W.cell? ⟨xb, 2, none⟩ = some (.map (some mbx)) ∧ xb < W.heap.size :=
  ⟨Go.Joins.cell_of_block h.box 0, Go.Joins.cell_of_block h.box 1, Go.Joins.cell_of_block h.box 2, blk_lt2 h.box⟩
theorem Play.hit {w W W' : World} {K : Nat → Prop} {S : List Nat} {rb : Nat} {F : Int} {hs : List (Int × Int)} {g cap mbx xb : Nat} {M M2 : Int → Int} {n m q : Nat} (h : Play w W K S rb F hs g cap mbx xb M M2 n m) (hg : W.grownBy W' (some q)) (hK : K q) (hS : q ∉ S) (h1 : q ≠ mbx) (h2 : q ≠ xb) (h3 : q ≠ g) (h4 : w.heap.size ≤ q) : Play w W' K S rb F hs g cap mbx xb M M2 n m where
  ram := h.ram.poke hg hK hS
  mem := h.mem.kept hg (by simp; omega)
  km := h.km
  kx := h.kx
  kg := h.kg
  kw := h.kw
  ns := h.ns
  box := (hg.block xb (blk_lt2 h.box) (by simp; omega)).trans h.box
  ho := h.ho.kept (hg.block g h.lg (by simp; omega))
  lg := Nat.lt_of_lt_of_le h.lg hg.size
  bel := h.bel.trans ⟨hg.os, hg.tape, hg.output, hg.size, fun k hk => hg.block k (Nat.lt_of_lt_of_le hk h.bel.size) (by simp; omega)⟩
  nx := h.nx
  ng := h.ng
  nw := h.nw
theorem rr_info : (Tryd.prog.info? 28).map (·.size) = some 3 := by kernel_rfl
theorem results_tc {fn : Func} {p q : Tmp} {t : TypeId} (h : fn.results = #[.tmp q, .cell p t]) (tmps : Array Value) (P : Program) (w : World) (a : Addr) (x y : Value)
    (hb : tmps.getD q undef = y) (ha : tmps.getD p undef = .pointer (some a)) (hx : (loadVar t a).run P w = .ok x w) :
    (results fn tmps).run P w = .ok (.tuple #[y, x]) w := by
  simp only [results, h]
  have e1 : ∀ W : World, (asAddr (Value.pointer (some a))).run P W = .ok a W := fun _ => rfl
  simp at ha hb
  simp [Sem.run_bind, Result.andThen, ha, hb, e1, hx]
/-- what Lay leaves behind -/
def Laid (w W : World) (rb : Nat) (M : Int → Int) : Prop := ∃ (K : Nat → Prop) (S : List Nat), Play w W K S rb 8 [(7, 8)] (w.heap.size + 1) 1 (w.heap.size + 1 + 1) (w.heap.size + 1 + 1 + 1) M M 80 320
set_option maxHeartbeats 8000000 in
theorem lay_any (p : Option Addr) (n c : Nat) (A : Nat → Pt) (hn : n ≤ maxLen) (w : World) (h : IsPuts w p n A) :
    Calls Tryd.prog 5 #[.slice p n c] w fun e w' => ∃ rb, e = .returned (.tuple #[.pointer (some ⟨rb, 0, none⟩), .agg #[.int .i64 8, .slice (some ⟨w.heap.size + 1, 0, none⟩) 1 1, .map (some (w.heap.size + 1 + 1))]]) ∧ Laid w w' rb (layM A (min n 40)) := by
  have HA : Hid (IsPuts w p n A) := h
  clear h
  have mm : (n : Int) ≤ 9223372036854775807 := by have : maxLen ≤ 9223372036854775807 := by decide +kernel
                                                  omega
  have mx : 1000 < maxLen := by decide +kernel
  have MX : Hid (1000 < maxLen) := mx
  clear mx
  have hmm := @run_makeMap Tryd.prog
  have HO : Hid (HolesAt (((((w.alloc (.cells #[.int .i64 0, .slice none 0 0, .map none] 28)).alloc (.cells #[.int .i64 7, .int .i64 8] 67)).alloc (.map #[] 0)).alloc (.cells #[.int .i64 8, .slice (some ⟨w.heap.size + 1, 0, none⟩) 1 1, .map (some (w.heap.size + 1 + 1))] 28)).alloc (.cells #[.int .i64 7, .int .i64 8] 67)) (w.heap.size + 1 + 1 + 1 + 1) [(7, 8)]) := by
    intro j h hj
    match j with
    | 0 =>
      cases hj
      have q := own_new ((((w.alloc (.cells #[.int .i64 0, .slice none 0 0, .map none] 28)).alloc (.cells #[.int .i64 7, .int .i64 8] 67)).alloc (.map #[] 0)).alloc (.cells #[.int .i64 8, .slice (some ⟨w.heap.size + 1, 0, none⟩) 1 1, .map (some (w.heap.size + 1 + 1))] 28)) (.cells #[.int .i64 7, .int .i64 8] 67)
      simp only [World.size_alloc] at q
      exact ⟨Go.Joins.cell_of_block q 0, Go.Joins.cell_of_block q 1⟩
    | j + 1 => simp at hj
  have NW : Hid (Calls Tryd.prog 12 #[.int .i64 8, .slice (some ⟨w.heap.size + 1 + 1 + 1 + 1, 0, none⟩) 1 1] (((((w.alloc (.cells #[.int .i64 0, .slice none 0 0, .map none] 28)).alloc (.cells #[.int .i64 7, .int .i64 8] 67)).alloc (.map #[] 0)).alloc (.cells #[.int .i64 8, .slice (some ⟨w.heap.size + 1, 0, none⟩) 1 1, .map (some (w.heap.size + 1 + 1))] 28)).alloc (.cells #[.int .i64 7, .int .i64 8] 67)) fun e w' => ∃ (rb : Nat) (K : Nat → Prop) (S : List Nat), e = .returned (.tuple #[.pointer (some ⟨rb, 0, none⟩), .int .i64 0]) ∧
      Ram5 w' K S rb (hasH 8 [(7, 8)]) 8 (fun _ => 0) 0 ∧ (∀ j, j < (((((w.alloc (.cells #[.int .i64 0, .slice none 0 0, .map none] 28)).alloc (.cells #[.int .i64 7, .int .i64 8] 67)).alloc (.map #[] 0)).alloc (.cells #[.int .i64 8, .slice (some ⟨w.heap.size + 1, 0, none⟩) 1 1, .map (some (w.heap.size + 1 + 1))] 28)).alloc (.cells #[.int .i64 7, .int .i64 8] 67)).heap.size → K j) ∧ (∀ s, s ∈ S → (((((w.alloc (.cells #[.int .i64 0, .slice none 0 0, .map none] 28)).alloc (.cells #[.int .i64 7, .int .i64 8] 67)).alloc (.map #[] 0)).alloc (.cells #[.int .i64 8, .slice (some ⟨w.heap.size + 1, 0, none⟩) 1 1, .map (some (w.heap.size + 1 + 1))] 28)).alloc (.cells #[.int .i64 7, .int .i64 8] 67)).heap.size ≤ s) ∧ Below (((((w.alloc (.cells #[.int .i64 0, .slice none 0 0, .map none] 28)).alloc (.cells #[.int .i64 7, .int .i64 8] 67)).alloc (.map #[] 0)).alloc (.cells #[.int .i64 8, .slice (some ⟨w.heap.size + 1, 0, none⟩) 1 1, .map (some (w.heap.size + 1 + 1))] 28)).alloc (.cells #[.int .i64 7, .int .i64 8] 67)).heap.size (((((w.alloc (.cells #[.int .i64 0, .slice none 0 0, .map none] 28)).alloc (.cells #[.int .i64 7, .int .i64 8] 67)).alloc (.map #[] 0)).alloc (.cells #[.int .i64 8, .slice (some ⟨w.heap.size + 1, 0, none⟩) 1 1, .map (some (w.heap.size + 1 + 1))] 28)).alloc (.cells #[.int .i64 7, .int .i64 8] 67)) w') :=
    new_named 8 (by omega) (by omega) (w.heap.size + 1 + 1 + 1 + 1) 1 [(7, 8)] (((((w.alloc (.cells #[.int .i64 0, .slice none 0 0, .map none] 28)).alloc (.cells #[.int .i64 7, .int .i64 8] 67)).alloc (.map #[] 0)).alloc (.cells #[.int .i64 8, .slice (some ⟨w.heap.size + 1, 0, none⟩) 1 1, .map (some (w.heap.size + 1 + 1))] 28)).alloc (.cells #[.int .i64 7, .int .i64 8] 67)) (by simp) (by simp) HO.out (by simp only [World.size_alloc]; omega) (fun j h hj => by
      match j with
      | 0 => cases hj; exact ⟨by decide, by decide, by decide⟩
      | j + 1 => simp at hj)
  clear HO
  go_enter Tryd.func5, Tryd.ntmps5
  go_wp2_with fail
  refine NW.out.mono ?_
  rintro e u ⟨rb, K, S, rfl, hr, hK, hS, hb⟩
  obtain ⟨h1, h2, h3⟩ := lay_start hr hK hS hb
  have NS : Hid (w.heap.size ∉ S) := fun hx => by
    have := hS _ hx
    simp only [World.size_alloc] at this
    omega
  have P0 : Hid (Play w u K S rb 8 [(7, 8)] (w.heap.size + 1) 1 (w.heap.size + 1 + 1) (w.heap.size + 1 + 1 + 1) (layM A 0) (layM A 0) (2 * 0) (8 * 0)) := h1
  have R0 : Hid (K w.heap.size ∧ u.heap[w.heap.size]? = some (.cells #[.int .i64 0, .slice none 0 0, .map none] 28 (0, 0))) := ⟨h2, h3⟩
  clear hr hK hS hb h1 h2 h3 NW
  go_wp2_with fail
  go_loopw [8] (fun v W => ∃ (k : Nat) (K : Nat → Prop), k ≤ n ∧ k ≤ 40 ∧ v = .int .i64 k ∧ Hid (Play w W K S rb 8 [(7, 8)] (w.heap.size + 1) 1 (w.heap.size + 1 + 1) (w.heap.size + 1 + 1 + 1) (layM A k) (layM A k) (2 * k) (8 * k)) ∧ Hid (K w.heap.size ∧ W.heap[w.heap.size]? = some (.cells #[.int .i64 0, .slice none 0 0, .map none] 28 (0, 0)))) (fun v _ => 40 - (intOf v).toNat)
  case atStart => exact ⟨0, K, by omega, by omega, rfl, P0, R0⟩
  case round =>
    clear P0 R0 K
    obtain ⟨k, K, hk, hk4, rfl, hP, hR⟩ := hrel
    by_cases hlt : k < n
    rotate_left
    · have hd : decide ((k : Int) < (n : Int)) = false := by simp; omega
      have EM : k = min n 40 := by omega
      have PP : Hid (Play w wr K S rb 8 [(7, 8)] (w.heap.size + 1) 1 (w.heap.size + 1 + 1) (w.heap.size + 1 + 1 + 1) (layM A (min n 40)) (layM A (min n 40)) 80 320) := by
        rw [← EM]; exact hP.out.more (by omega) (by omega)
      clear HA EM
      obtain ⟨c0, c1, c2, lx⟩ := hP.out.cells
      have r0 : wr.cell? ⟨w.heap.size, 0, none⟩ = some (.int .i64 0) := Go.Joins.cell_of_block hR.out.2 0
      have r1 : wr.cell? ⟨w.heap.size, 1, none⟩ = some (.slice none 0 0) := Go.Joins.cell_of_block hR.out.2 1
      have r2 : wr.cell? ⟨w.heap.size, 2, none⟩ = some (.map none) := Go.Joins.cell_of_block hR.out.2 2
      have f0 : wr.frozen? ⟨w.heap.size, 0, none⟩ = false := Go.Joins.unfrozen_of_block hR.out.2 0
      have f1 : wr.frozen? ⟨w.heap.size, 1, none⟩ = false := Go.Joins.unfrozen_of_block hR.out.2 1
      have f2 : wr.frozen? ⟨w.heap.size, 2, none⟩ = false := Go.Joins.unfrozen_of_block hR.out.2 2
      have lr : w.heap.size < wr.heap.size := blk_lt2 hR.out.2
      simp only [List.length_cons, List.length_nil, Nat.zero_add] at c1
      go_wp2_with fail
      go_region
      go_wp2_with fail
      have th : wr.there (w.heap.size) 0 3 := fun j hj => by
        match j, hj with
        | 0, _ => exact ⟨by rw [show w.heap.size = w.heap.size from rfl]; simp [r0], f0⟩
        | 1, _ => exact ⟨by simp [r1], f1⟩
        | 2, _ => exact ⟨by simp [r2], f2⟩
      have RV : ((wr.setCells (w.heap.size) 0 [.int .i64 8, .slice (some ⟨w.heap.size + 1, 0, none⟩) 1 1, .map (some (w.heap.size + 1 + 1))]).drew).rangeAt (w.heap.size) 0 [.int .i64 8, .slice (some ⟨w.heap.size + 1, 0, none⟩) 1 1, .map (some (w.heap.size + 1 + 1))] := World.rangeAt_setCells_same wr (w.heap.size) 0 [.int .i64 8, .slice (some ⟨w.heap.size + 1, 0, none⟩) 1 1, .map (some (w.heap.size + 1 + 1))] th
      have hr := run_loadVar_mid (P := Tryd.prog) ((wr.setCells (w.heap.size) 0 [.int .i64 8, .slice (some ⟨w.heap.size + 1, 0, none⟩) 1 1, .map (some (w.heap.size + 1 + 1))]).drew) (w.heap.size) 0 28 [.int .i64 8, .slice (some ⟨w.heap.size + 1, 0, none⟩) 1 1, .map (some (w.heap.size + 1 + 1))] _ RV Tryd.underlying28 rfl rr_info
      refine bodyPost_ret (v := .tuple #[.pointer (some ⟨rb, 0, none⟩), .agg #[.int .i64 8, .slice (some ⟨w.heap.size + 1, 0, none⟩) 1 1, .map (some (w.heap.size + 1 + 1))]]) (results_tc Tryd.results5 _ _ _ _ _ _ rfl rfl hr) rfl ?_
      have kk : Kept (fun j => j ≠ w.heap.size) wr (wr.setCells (w.heap.size) 0 [.int .i64 8, .slice (some ⟨w.heap.size + 1, 0, none⟩) 1 1, .map (some (w.heap.size + 1 + 1))]) := kept_setCells _ _ (fun h => h rfl) _ 0 wr
      exact ⟨rb, rfl, K, S, (PP.out.hit (grown_of_but kk) hR.out.1 NS.out (by omega) (by omega) (by omega) (Nat.le_refl _)).drew⟩
    have hd : decide ((k : Int) < (n : Int)) = true := by simp; omega
    by_cases hl4 : k < 40
    rotate_left
    · have hd2 : decide ((k : Int) < 40) = false := by simp; omega
      have EM : k = min n 40 := by omega
      have PP : Hid (Play w wr K S rb 8 [(7, 8)] (w.heap.size + 1) 1 (w.heap.size + 1 + 1) (w.heap.size + 1 + 1 + 1) (layM A (min n 40)) (layM A (min n 40)) 80 320) := by
        rw [← EM]; exact hP.out.more (by omega) (by omega)
      clear HA EM
      obtain ⟨c0, c1, c2, lx⟩ := hP.out.cells
      have r0 : wr.cell? ⟨w.heap.size, 0, none⟩ = some (.int .i64 0) := Go.Joins.cell_of_block hR.out.2 0
      have r1 : wr.cell? ⟨w.heap.size, 1, none⟩ = some (.slice none 0 0) := Go.Joins.cell_of_block hR.out.2 1
      have r2 : wr.cell? ⟨w.heap.size, 2, none⟩ = some (.map none) := Go.Joins.cell_of_block hR.out.2 2
      have f0 : wr.frozen? ⟨w.heap.size, 0, none⟩ = false := Go.Joins.unfrozen_of_block hR.out.2 0
      have f1 : wr.frozen? ⟨w.heap.size, 1, none⟩ = false := Go.Joins.unfrozen_of_block hR.out.2 1
      have f2 : wr.frozen? ⟨w.heap.size, 2, none⟩ = false := Go.Joins.unfrozen_of_block hR.out.2 2
      have lr : w.heap.size < wr.heap.size := blk_lt2 hR.out.2
      simp only [List.length_cons, List.length_nil, Nat.zero_add] at c1
      go_wp2_with fail
      go_region
      go_wp2_with fail
      have th : wr.there (w.heap.size) 0 3 := fun j hj => by
        match j, hj with
        | 0, _ => exact ⟨by rw [show w.heap.size = w.heap.size from rfl]; simp [r0], f0⟩
        | 1, _ => exact ⟨by simp [r1], f1⟩
        | 2, _ => exact ⟨by simp [r2], f2⟩
      have RV : ((wr.setCells (w.heap.size) 0 [.int .i64 8, .slice (some ⟨w.heap.size + 1, 0, none⟩) 1 1, .map (some (w.heap.size + 1 + 1))]).drew).rangeAt (w.heap.size) 0 [.int .i64 8, .slice (some ⟨w.heap.size + 1, 0, none⟩) 1 1, .map (some (w.heap.size + 1 + 1))] := World.rangeAt_setCells_same wr (w.heap.size) 0 [.int .i64 8, .slice (some ⟨w.heap.size + 1, 0, none⟩) 1 1, .map (some (w.heap.size + 1 + 1))] th
      have hr := run_loadVar_mid (P := Tryd.prog) ((wr.setCells (w.heap.size) 0 [.int .i64 8, .slice (some ⟨w.heap.size + 1, 0, none⟩) 1 1, .map (some (w.heap.size + 1 + 1))]).drew) (w.heap.size) 0 28 [.int .i64 8, .slice (some ⟨w.heap.size + 1, 0, none⟩) 1 1, .map (some (w.heap.size + 1 + 1))] _ RV Tryd.underlying28 rfl rr_info
      refine bodyPost_ret (v := .tuple #[.pointer (some ⟨rb, 0, none⟩), .agg #[.int .i64 8, .slice (some ⟨w.heap.size + 1, 0, none⟩) 1 1, .map (some (w.heap.size + 1 + 1))]]) (results_tc Tryd.results5 _ _ _ _ _ _ rfl rfl hr) rfl ?_
      have kk : Kept (fun j => j ≠ w.heap.size) wr (wr.setCells (w.heap.size) 0 [.int .i64 8, .slice (some ⟨w.heap.size + 1, 0, none⟩) 1 1, .map (some (w.heap.size + 1 + 1))]) := kept_setCells _ _ (fun h => h rfl) _ 0 wr
      exact ⟨rb, rfl, K, S, (PP.out.hit (grown_of_but kk) hR.out.1 NS.out (by omega) (by omega) (by omega) (Nat.le_refl _)).drew⟩
    have hd2 : decide ((k : Int) < 40) = true := by simp; omega
    have hd0 : decide ((k : Int) < 0) = false := by simp
    obtain ⟨bq, oq, rfl, lq, y0, y1, y2, gx⟩ := HA.out k hlt
    have HL : layM A (k + 1) = if (A k).ok then mset (layM A k) ((A k).fr * 4096 + 8 * (A k).at') 8 (A k).x else layM A k := rfl
    have z0 : wr.cell? ⟨bq, oq + k * 3, none⟩ = some (.int .i64 (A k).fr) := (World.cell?_of_block (hP.out.bel.block bq lq)).trans y0
    have z1 : wr.cell? ⟨bq, oq + k * 3 + 1, none⟩ = some (.int .i64 (A k).at') := (World.cell?_of_block (hP.out.bel.block bq lq)).trans y1
    have z2 : wr.cell? ⟨bq, oq + k * 3 + 2, none⟩ = some (.int .u64 (A k).x) := (World.cell?_of_block (hP.out.bel.block bq lq)).trans y2
    have lq2 : bq < wr.heap.size := Nat.lt_of_lt_of_le lq hP.out.bel.size
    clear y0 y1 y2
    generalize A k = pt at z0 z1 z2 gx HL
    obtain ⟨fr, a, x⟩ := pt
    simp only at z0 z1 z2 gx HL
    have HL : Hid _ := HL
    have PA : Hid (Play w (wr.alloc (.cells #[.int .i64 fr, .int .i64 a, .int .u64 x] 69)) (fun j => K j ∨ j = wr.heap.size) S rb 8 [(7, 8)] (w.heap.size + 1) 1 (w.heap.size + 1 + 1) (w.heap.size + 1 + 1 + 1) (layM A k) (layM A k) (2 * k) (8 * k)) := hP.out.add _
    have RA : Hid ((fun j => K j ∨ j = wr.heap.size) w.heap.size ∧ (wr.alloc (.cells #[.int .i64 fr, .int .i64 a, .int .u64 x] 69)).heap[w.heap.size]? = some (.cells #[.int .i64 0, .slice none 0 0, .map none] 28 (0, 0))) := ⟨Or.inl hR.out.1, (heap_lt _ _ (blk_lt2 hR.out.2)).trans hR.out.2⟩
    by_cases g0 : fr < 0
    · skip
      have d0 : decide (fr < 0) = true := decide_eq_true g0
      have PN : Hid (Play w (wr.alloc (.cells #[.int .i64 fr, .int .i64 a, .int .u64 x] 69)) (fun j => K j ∨ j = wr.heap.size) S rb 8 [(7, 8)] (w.heap.size + 1) 1 (w.heap.size + 1 + 1) (w.heap.size + 1 + 1 + 1) (layM A (k + 1)) (layM A (k + 1)) (2 * (k + 1)) (8 * (k + 1))) := by
        rw [HL.out, if_neg (by unfold Pt.ok; simp only; omega)]; exact PA.out.more (by omega) (by omega)
      clear HL PA hP hR HA
      go_wp2_with fail
      go_roundw
      case rel => exact ⟨k + 1, (fun j => K j ∨ j = wr.heap.size), by omega, by omega, by go_num, PN, RA⟩
      case measure => simp [intOf]; omega
    by_cases g1 : 7 < fr
    · skip
      have d0 : decide (fr < 0) = false := decide_eq_false g0
      have d1 : decide (7 < fr) = true := decide_eq_true g1
      have PN : Hid (Play w (wr.alloc (.cells #[.int .i64 fr, .int .i64 a, .int .u64 x] 69)) (fun j => K j ∨ j = wr.heap.size) S rb 8 [(7, 8)] (w.heap.size + 1) 1 (w.heap.size + 1 + 1) (w.heap.size + 1 + 1 + 1) (layM A (k + 1)) (layM A (k + 1)) (2 * (k + 1)) (8 * (k + 1))) := by
        rw [HL.out, if_neg (by unfold Pt.ok; simp only; omega)]; exact PA.out.more (by omega) (by omega)
      clear HL PA hP hR HA
      go_wp2_with fail
      go_roundw
      case rel => exact ⟨k + 1, (fun j => K j ∨ j = wr.heap.size), by omega, by omega, by go_num, PN, RA⟩
      case measure => simp [intOf]; omega
    by_cases g2 : a < 0
    · skip
      have d0 : decide (fr < 0) = false := decide_eq_false g0
      have d1 : decide (7 < fr) = false := decide_eq_false g1
      have d2 : decide (a < 0) = true := decide_eq_true g2
      have PN : Hid (Play w (wr.alloc (.cells #[.int .i64 fr, .int .i64 a, .int .u64 x] 69)) (fun j => K j ∨ j = wr.heap.size) S rb 8 [(7, 8)] (w.heap.size + 1) 1 (w.heap.size + 1 + 1) (w.heap.size + 1 + 1 + 1) (layM A (k + 1)) (layM A (k + 1)) (2 * (k + 1)) (8 * (k + 1))) := by
        rw [HL.out, if_neg (by unfold Pt.ok; simp only; omega)]; exact PA.out.more (by omega) (by omega)
      clear HL PA hP hR HA
      go_wp2_with fail
      go_roundw
      case rel => exact ⟨k + 1, (fun j => K j ∨ j = wr.heap.size), by omega, by omega, by go_num, PN, RA⟩
      case measure => simp [intOf]; omega
    by_cases g3 : 511 < a
    · skip
      have d0 : decide (fr < 0) = false := decide_eq_false g0
      have d1 : decide (7 < fr) = false := decide_eq_false g1
      have d2 : decide (a < 0) = false := decide_eq_false g2
      have d3 : decide (511 < a) = true := decide_eq_true g3
      have PN : Hid (Play w (wr.alloc (.cells #[.int .i64 fr, .int .i64 a, .int .u64 x] 69)) (fun j => K j ∨ j = wr.heap.size) S rb 8 [(7, 8)] (w.heap.size + 1) 1 (w.heap.size + 1 + 1) (w.heap.size + 1 + 1 + 1) (layM A (k + 1)) (layM A (k + 1)) (2 * (k + 1)) (8 * (k + 1))) := by
        rw [HL.out, if_neg (by unfold Pt.ok; simp only; omega)]; exact PA.out.more (by omega) (by omega)
      clear HL PA hP hR HA
      go_wp2_with fail
      go_roundw
      case rel => exact ⟨k + 1, (fun j => K j ∨ j = wr.heap.size), by omega, by omega, by go_num, PN, RA⟩
      case measure => simp [intOf]; omega
    have d0 : decide (fr < 0) = false := decide_eq_false g0
    have d1 : decide (7 < fr) = false := decide_eq_false g1
    have d2 : decide (a < 0) = false := decide_eq_false g2
    have d3 : decide (511 < a) = false := decide_eq_false g3
    have ux : 0 ≤ x ∧ x < 18446744073709551616 := wf_u64 gx
    have u1 : IntKind.u64.wrap fr = fr := by rw [IntKind.wrap_u64]; omega
    have u2 : IntKind.u64.wrap (fr * 4096) = fr * 4096 := by rw [IntKind.wrap_u64]; omega
    have u3 : IntKind.i64.wrap (8 * a) = 8 * a := by rw [IntKind.wrap_i64]; omega
    have u3' : wrap64 (8 * a) = 8 * a := by simp only [wrap64]; omega
    have u4 : IntKind.u64.wrap (8 * a) = 8 * a := by rw [IntKind.wrap_u64]; omega
    have u5 : IntKind.u64.wrap (fr * 4096 + 8 * a) = fr * 4096 + 8 * a := by rw [IntKind.wrap_u64]; omega
    have CK := chk_lay (f := fr) (a := a) (by omega) (by omega)
    by_cases f7 : fr = 7
    · rw [if_pos f7] at CK
      have SE : Hid (Calls Tryd.prog 13 #[.pointer (some ⟨rb, 0, none⟩), .int .u64 (fr * 4096 + 8 * a), .int .i64 8, .int .u64 x] (wr.alloc (.cells #[.int .i64 fr, .int .i64 a, .int .u64 x] 69)) fun e w' => e = .returned (.int .i64 2) ∧ (wr.alloc (.cells #[.int .i64 fr, .int .i64 a, .int .u64 x] 69)).grownBy w' none) := store_errG PA.out.ram.ram.ram _ 8 x (by omega) (by omega) 2 CK (by omega)
      have HN : Hid (¬ (Pt.mk fr a x).ok) := by unfold Pt.ok; show ¬ _; simp only; omega
      clear CK f7 hP hR HA
      go_wp2_with fail
      refine SE.out.mono ?_
      rintro e u ⟨rfl, hg⟩
      have PN : Hid (Play w u (fun j => K j ∨ j = wr.heap.size) S rb 8 [(7, 8)] (w.heap.size + 1) 1 (w.heap.size + 1 + 1) (w.heap.size + 1 + 1 + 1) (layM A (k + 1)) (layM A (k + 1)) (2 * (k + 1)) (8 * (k + 1))) := by
        rw [HL.out, if_neg HN.out]; exact (PA.out.grow hg).more (by omega) (by omega)
      have RN : Hid ((fun j => K j ∨ j = wr.heap.size) w.heap.size ∧ u.heap[w.heap.size]? = some (.cells #[.int .i64 0, .slice none 0 0, .map none] 28 (0, 0))) := ⟨RA.out.1, (hg.block _ (blk_lt2 RA.out.2) (by simp)).trans RA.out.2⟩
      clear SE PA RA HL HN hg
      go_wp2_with fail
      go_roundw
      case rel => exact ⟨k + 1, (fun j => K j ∨ j = wr.heap.size), by omega, by omega, by go_num, PN, RN⟩
      case measure => simp [intOf]; omega
    rw [if_neg f7] at CK
    have SK : Hid (Calls Tryd.prog 13 #[.pointer (some ⟨rb, 0, none⟩), .int .u64 (fr * 4096 + 8 * a), .int .i64 8, .int .u64 x] (wr.alloc (.cells #[.int .i64 fr, .int .i64 a, .int .u64 x] 69)) fun e w' => e = .returned (.int .i64 0) ∧ IsRamK w' (fun j => K j ∨ j = wr.heap.size) rb (hasH 8 [(7, 8)]) 8 (mset (layM A k) (fr * 4096 + 8 * a) 8 x) (2 * k + 2) ∧ Kept (fun j => K j ∨ j = wr.heap.size) (wr.alloc (.cells #[.int .i64 fr, .int .i64 a, .int .u64 x] 69)) w') := store_K PA.out.ram.ram (by have := MX.out; omega) _ 8 x (by omega) (by omega) CK ux.1 ux.2
    have HN : Hid ((Pt.mk fr a x).ok) := by unfold Pt.ok; show _ ∧ _; simp only; omega
    have PB : Hid (0 ≤ fr * 4096 + 8 * a ∧ fr * 4096 + 8 * a + 8 ≤ 18446744073709551616) := ⟨by omega, by omega⟩
    have UX : Hid (0 ≤ x ∧ x < 18446744073709551616) := ux
    clear CK ux f7 hP hR HA
    go_wp2_with fail
    refine SK.out.mono ?_
    rintro e u ⟨rfl, hr, hk2⟩
    have PM : Hid (Play w u (fun j => K j ∨ j = wr.heap.size) S rb 8 [(7, 8)] (w.heap.size + 1) 1 (w.heap.size + 1 + 1) (w.heap.size + 1 + 1 + 1) (mset (layM A k) (fr * 4096 + 8 * a) 8 x) (layM A k) (2 * k + 2) (8 * k)) := PA.out.next hr hk2
    have RM : Hid ((fun j => K j ∨ j = wr.heap.size) w.heap.size ∧ u.heap[w.heap.size]? = some (.cells #[.int .i64 0, .slice none 0 0, .map none] 28 (0, 0))) := ⟨RA.out.1, (hk2.block _ RA.out.1).trans RA.out.2⟩
    have p2 : u.cell? ⟨wr.heap.size, 2, none⟩ = some (.int .u64 x) := (World.cell?_of_block (hk2.block wr.heap.size (Or.inr rfl))).trans (Go.Joins.cell_of_block (own_new wr _) 2)
    clear SK PA RA hr hk2
    obtain ⟨c0, c1, c2, lx⟩ := PM.out.cells
    simp only [List.length_cons, List.length_nil, Nat.zero_add] at c1
    have SR : Hid (∀ W : World, BMem W (w.heap.size + 1 + 1) (8 * k) (layM A k) → Calls Tryd.prog 16 #[.agg #[.int .i64 8, .slice (some ⟨w.heap.size + 1, 0, none⟩) 1 1, .map (some (w.heap.size + 1 + 1))], .int .u64 (fr * 4096 + 8 * a), .int .i64 8, .int .u64 x] W fun e w' => e = .returned (.tuple #[]) ∧ BMem w' (w.heap.size + 1 + 1) (8 * k + 8) (mset (layM A k) (fr * 4096 + 8 * a) 8 x) ∧ W.grownBy w' (some (w.heap.size + 1 + 1))) := fun W hm => rstore_any 8 _ (w.heap.size + 1 + 1) (8 * k) (layM A k) (fr * 4096 + 8 * a) 8 x PB.out.1 PB.out.2 (by omega) UX.out.1 UX.out.2 W hm (by have := MX.out; omega) rfl
    go_wp2_with fail
    refine (SR.out _ PM.out.mem).mono ?_
    rintro e v ⟨rfl, hm, hg⟩
    have PN : Hid (Play w v (fun j => K j ∨ j = wr.heap.size) S rb 8 [(7, 8)] (w.heap.size + 1) 1 (w.heap.size + 1 + 1) (w.heap.size + 1 + 1 + 1) (layM A (k + 1)) (layM A (k + 1)) (2 * (k + 1)) (8 * (k + 1))) := by
      rw [HL.out, if_pos HN.out]; exact (PM.out.poke hg hm).more (by omega) (by omega)
    have RN : Hid ((fun j => K j ∨ j = wr.heap.size) w.heap.size ∧ v.heap[w.heap.size]? = some (.cells #[.int .i64 0, .slice none 0 0, .map none] 28 (0, 0))) := ⟨RM.out.1, (hg.block _ (blk_lt2 RM.out.2) (by simp; omega)).trans RM.out.2⟩
    clear SR PM RM HL HN hm hg c0 c1 c2 lx p2
    go_wp2_with fail
    go_roundw
    case rel => exact ⟨k + 1, (fun j => K j ∨ j = wr.heap.size), by omega, by omega, by go_num, PN, RN⟩
    case measure => simp [intOf]; omega
end Go.Proofs.YtaebihgegiddnaaDoor
