/- Regions: good lists, pages found and counted. -/
import Derived.Test.YtngaodfajihmmaaG1
namespace Go.Proofs.Ytngaodfajihmmaa
open Go.ChangeShapes Go.WideShapes Go.ChangeAt Go.RowKit Go.Maps
set_option linter.unusedSimpArgs false
set_option linter.unusedVariables false

theorem below_setCells {w x : World} (h : Below w.heap.size w x) (b o : Nat) (vs : List Value) (hb : w.heap.size ≤ b) : Below w.heap.size w (x.setCells b o vs) := by
  have g := grown_setCells b vs o x
  exact h.trans ⟨g.os, g.tape, g.output, g.size, fun k hk => g.block k (Nat.lt_of_lt_of_le hk h.size) (fun e => by have := Option.some.inj e; omega)⟩
theorem results_pair {fn : Func} {p q : Tmp} {t : TypeId} (h : fn.results = #[.cell p t, .tmp q]) (tmps : Array Value) (P : Program) (w : World) (a : Addr) (x y : Value)
    (ha : tmps.getD p undef = .pointer (some a)) (hb : tmps.getD q undef = y) (hx : (loadVar t a).run P w = .ok x w) :
    (results fn tmps).run P w = .ok (.tuple #[x, y]) w := by
  simp only [results, h]
  have e1 : ∀ W : World, (asAddr (Value.pointer (some a))).run P W = .ok a W := fun _ => rfl
  simp at ha hb
  simp [Sem.run_bind, Result.andThen, ha, hb, e1, hx]
def rightB (f t : Int) : Bool := decide (0 ≤ f) && (decide (f < t) && (decide (t ≤ 34359738368) && decide (t - f ≤ 65536)))
set_option maxHeartbeats 1000000 in
theorem right_any (f t : Int) (w : World) : Calls Try.prog 36 #[rgV f t] w fun e w' => e = .returned (.bool (rightB f t)) ∧ Below w.heap.size w w' := by
  unfold rightB
  by_cases c1 : 0 ≤ f
  · have d1 : decide (0 ≤ f) = true := by simp [c1]
    by_cases c2 : f < t
    · have d2 : decide (f < t) = true := by simp [c2]
      by_cases c3 : t ≤ 34359738368
      · have d3 : decide (t ≤ 34359738368) = true := by simp [c3]
        by_cases c4 : t - f ≤ 65536
        · have d4 : decide (t - f ≤ 65536) = true := by simp [c4]
          go_enter Try.func36, Try.ntmps36
          go_wp2
          go_returns
          exact ⟨by simp [d1, d2, d3, d4], Go.Joins.below_alloc1 _ _⟩
        · have d4 : decide (t - f ≤ 65536) = false := by simp; omega
          go_enter Try.func36, Try.ntmps36
          go_wp2
          go_returns
          exact ⟨by simp [d1, d2, d3, d4], Go.Joins.below_alloc1 _ _⟩
      · have d3 : decide (t ≤ 34359738368) = false := by simp [c3]
        go_enter Try.func36, Try.ntmps36
        go_wp2
        go_returns
        exact ⟨by simp [d1, d2, d3], Go.Joins.below_alloc1 _ _⟩
    · have d2 : decide (f < t) = false := by simp [c2]
      go_enter Try.func36, Try.ntmps36
      go_wp2
      go_returns
      exact ⟨by simp [d1, d2], Go.Joins.below_alloc1 _ _⟩
  · have d1 : decide (0 ≤ f) = false := by simp [c1]
    go_enter Try.func36, Try.ntmps36
    go_wp2
    go_returns
    exact ⟨by simp [d1], Go.Joins.below_alloc1 _ _⟩
/-- the first region of a page -/
def findR : List Rg → Int → Rg × Bool
  | [], _ => (Rg.zero, false)
  | r :: l, i => if r.fr ≤ i ∧ i < r.to then (r, true) else findR l i
def Rg.has (r : Rg) (i : Int) : Prop := r.fr ≤ i ∧ i < r.to
theorem findR_hit (i : Int) : ∀ (B : List Rg) (j : Nat), j < B.length → (∀ k, k < j → ¬ (B.getD k Rg.zero).has i) → (B.getD j Rg.zero).has i → findR B i = (B.getD j Rg.zero, true)
  | [], j, h, _, _ => absurd h (Nat.not_lt_zero _)
  | b :: r, 0, _, _, e => by
    have e' : b.fr ≤ i ∧ i < b.to := by simpa [List.getD, Rg.has] using e
    unfold findR; rw [if_pos e']; simp [List.getD]
  | b :: r, j + 1, h, n, e => by
    have n0 : ¬ (b.fr ≤ i ∧ i < b.to) := by have := n 0 (by omega); simpa [List.getD, Rg.has] using this
    have e' : (r.getD j Rg.zero).has i := by simpa [List.getD] using e
    unfold findR
    rw [if_neg n0, findR_hit i r j (by simpa using h) (fun k hk => by simpa [List.getD] using n (k + 1) (by omega)) e']
    simp [List.getD]
theorem findR_miss (i : Int) : ∀ (B : List Rg), (∀ k, k < B.length → ¬ (B.getD k Rg.zero).has i) → findR B i = (Rg.zero, false)
  | [], _ => rfl
  | b :: r, n => by
    have n0 : ¬ (b.fr ≤ i ∧ i < b.to) := by have := n 0 (by simp); simpa [List.getD, Rg.has] using this
    unfold findR
    rw [if_neg n0, findR_miss i r (fun k hk => by simpa [List.getD] using n (k + 1) (by simpa using hk))]
set_option maxHeartbeats 2000000 in
theorem find_any (base : Nat) (p : Option Addr) (c : Nat) (B : List Rg) (hB : B.length ≤ 100) (i : Int) (w : World) (h : IsL w base p B) :
    Calls Try.prog 19 #[.slice p B.length c, .int .i64 i] w fun e w' => e = .returned (.tuple #[(findR B i).1.val, .bool (findR B i).2]) ∧ Below w.heap.size w w' := by
  obtain ⟨z, hz⟩ : ∃ z, findR B i = z := ⟨_, rfl⟩
  rw [hz]
  have HZ : Hid (findR B i = z) := hz
  have HB : Hid (IsL w base p B) := h
  clear hz h
  go_enter Try.func19, Try.ntmps19
  go_wp2_with fail
  go_loopw [10] (fun x W => ∃ m : Nat, m ≤ B.length ∧ x = .int .i64 m ∧ Hid (IsL W base p B) ∧ Hid (Below w.heap.size w W) ∧ Hid (W.heap[w.heap.size]? = some (.cells #[.int .i64 0, .int .i64 0, .bool false, .bool false, .bool false, .int .i64 0] 37 (0, 0))) ∧ Hid (∀ k, k < m → ¬ (B.getD k Rg.zero).has i)) (fun x _ => B.length - (intOf x).toNat)
  case atStart => exact ⟨0, by omega, rfl, HB.out.below (Go.Joins.below_alloc1 _ _), Go.Joins.below_alloc1 _ _, own1 w _, fun k hk => absurd hk (Nat.not_lt_zero _)⟩
  case round =>
    obtain ⟨m, hm, rfl, hI, hb, hk, hno⟩ := hrel
    have lw : w.heap.size < wr.heap.size := (Array.getElem?_eq_some_iff.1 hk.out).1
    by_cases hlm : m < B.length
    · have hd : decide ((m : Int) < (B.length : Int)) = true := by simp; omega
      obtain ⟨g, rfl, g1, g2, gc⟩ := hI.out m hlm
      have HIT : Hid ((B.getD m Rg.zero).has i → z = (B.getD m Rg.zero, true)) := fun e => by rw [← HZ.out]; exact findR_hit i B m hlm hno.out e
      have NX : Hid (¬ (B.getD m Rg.zero).has i → ∀ k, k < m + 1 → ¬ (B.getD k Rg.zero).has i) := fun e k hk => by
        by_cases q : k = m
        · subst q; exact e
        · exact hno.out k (by omega)
      generalize B.getD m Rg.zero = bx at gc HIT NX
      obtain ⟨r1, r2, r3, r4, r5, r6⟩ := bx
      have y0 : wr.cell? ⟨g, m * 6, none⟩ = some (.int .i64 r1) := gc 0 _ rfl
      have y1 : wr.cell? ⟨g, m * 6 + 1, none⟩ = some (.int .i64 r2) := gc 1 _ rfl
      have y2 : wr.cell? ⟨g, m * 6 + 2, none⟩ = some (.bool r3) := gc 2 _ rfl
      have y3 : wr.cell? ⟨g, m * 6 + 3, none⟩ = some (.bool r4) := gc 3 _ rfl
      have y4 : wr.cell? ⟨g, m * 6 + 4, none⟩ = some (.bool r5) := gc 4 _ rfl
      have y5 : wr.cell? ⟨g, m * 6 + 5, none⟩ = some (.int .i64 r6) := gc 5 _ rfl
      clear gc
      by_cases c1 : r1 ≤ i
      · have e1 : decide (r1 ≤ i) = true := by simp [c1]
        by_cases c2 : i < r2
        · have e2 : decide (i < r2) = true := by simp [c2]
          have ez := HIT.out ⟨c1, c2⟩
          subst ez
          clear HIT NX HZ
          have BA : Hid (Below w.heap.size w (wr.alloc (.cells #[.int .i64 r1, .int .i64 r2, .bool r3, .bool r4, .bool r5, .int .i64 r6] 37))) := below_new hb.out _
          have TH : Hid ((wr.alloc (.cells #[.int .i64 r1, .int .i64 r2, .bool r3, .bool r4, .bool r5, .int .i64 r6] 37)).there w.heap.size 0 6) := there_block (((Go.Joins.below_alloc1 wr _).block _ lw).trans hk.out)
          go_wp2_with (refine store_pat (x := .tmp 4) w.heap.size 0 #[.int .i64 r1, .int .i64 r2, .bool r3, .bool r4, .bool r5, .int .i64 r6] ?hx ?hy ?ht ?hi ?h1 ?rest; (case hx => rfl); (case hy => rfl); (case ht => exact TH.out); (case hi => exact rg_info); (case h1 => simp [Value.oneCell']); generalize hW2 : World.setCells _ _ _ _ = W2; have HW2 : Hid ((wr.alloc (.cells #[.int .i64 r1, .int .i64 r2, .bool r3, .bool r4, .bool r5, .int .i64 r6] 37)).setCells w.heap.size 0 [.int .i64 r1, .int .i64 r2, .bool r3, .bool r4, .bool r5, .int .i64 r6] = W2) := hW2; clear hW2)
          have hr := run_loadVar_mid (P := Try.prog) ((wr.alloc (.cells #[.int .i64 r1, .int .i64 r2, .bool r3, .bool r4, .bool r5, .int .i64 r6] 37)).setCells w.heap.size 0 [.int .i64 r1, .int .i64 r2, .bool r3, .bool r4, .bool r5, .int .i64 r6]) w.heap.size 0 37 [.int .i64 r1, .int .i64 r2, .bool r3, .bool r4, .bool r5, .int .i64 r6] _ (World.rangeAt_setCells_same _ w.heap.size 0 [.int .i64 r1, .int .i64 r2, .bool r3, .bool r4, .bool r5, .int .i64 r6] TH.out) Try.underlying37 rfl rg_info
          have hb2 := below_setCells BA.out w.heap.size 0 [.int .i64 r1, .int .i64 r2, .bool r3, .bool r4, .bool r5, .int .i64 r6] (Nat.le_refl _)
          rw [HW2.out] at hr hb2
          refine bodyPost_ret (v := .tuple #[.agg #[.int .i64 r1, .int .i64 r2, .bool r3, .bool r4, .bool r5, .int .i64 r6], .bool true]) ?_ rfl ⟨rfl, hb2⟩
          exact results_pair Try.results19 _ _ _ _ _ _ rfl rfl hr
        · have e2 : decide (i < r2) = false := by simp [c2]
          have N2 : Hid (∀ k, k < m + 1 → ¬ (B.getD k Rg.zero).has i) := NX.out (by unfold Rg.has; simp only; omega)
          clear NX HIT
          go_wp2_with fail
          go_roundw
          case rel => exact ⟨m + 1, by omega, by go_num, hI.out.below (Go.Joins.below_alloc1 _ _), below_new hb.out _, ((Go.Joins.below_alloc1 wr _).block _ lw).trans hk.out, N2⟩
          case measure => simp [intOf]; omega
      · have e1 : decide (r1 ≤ i) = false := by simp [c1]
        have N2 : Hid (∀ k, k < m + 1 → ¬ (B.getD k Rg.zero).has i) := NX.out (by unfold Rg.has; simp only; omega)
        clear NX HIT
        go_wp2_with fail
        go_roundw
        case rel => exact ⟨m + 1, by omega, by go_num, hI.out.below (Go.Joins.below_alloc1 _ _), below_new hb.out _, ((Go.Joins.below_alloc1 wr _).block _ lw).trans hk.out, N2⟩
        case measure => simp [intOf]; omega
    · obtain rfl : m = B.length := by omega
      have ez : z = (Rg.zero, false) := by rw [← HZ.out]; exact findR_miss i B hno.out
      subst ez
      have TH : Hid (wr.there w.heap.size 0 6) := there_block hk.out
      clear HZ hno
      have r0 : wr.cell? ⟨w.heap.size, 0, none⟩ = some (.int .i64 0) := Go.Joins.cell_of_block hk.out 0
      have f0 : wr.frozen? ⟨w.heap.size, 0, none⟩ = false := Go.Joins.unfrozen_of_block hk.out 0
      have r1 : wr.cell? ⟨w.heap.size, 1, none⟩ = some (.int .i64 0) := Go.Joins.cell_of_block hk.out 1
      have f1 : wr.frozen? ⟨w.heap.size, 1, none⟩ = false := Go.Joins.unfrozen_of_block hk.out 1
      have r2 : wr.cell? ⟨w.heap.size, 2, none⟩ = some (.bool false) := Go.Joins.cell_of_block hk.out 2
      have f2 : wr.frozen? ⟨w.heap.size, 2, none⟩ = false := Go.Joins.unfrozen_of_block hk.out 2
      have r3 : wr.cell? ⟨w.heap.size, 3, none⟩ = some (.bool false) := Go.Joins.cell_of_block hk.out 3
      have f3 : wr.frozen? ⟨w.heap.size, 3, none⟩ = false := Go.Joins.unfrozen_of_block hk.out 3
      have r4 : wr.cell? ⟨w.heap.size, 4, none⟩ = some (.bool false) := Go.Joins.cell_of_block hk.out 4
      have f4 : wr.frozen? ⟨w.heap.size, 4, none⟩ = false := Go.Joins.unfrozen_of_block hk.out 4
      have r5 : wr.cell? ⟨w.heap.size, 5, none⟩ = some (.int .i64 0) := Go.Joins.cell_of_block hk.out 5
      have f5 : wr.frozen? ⟨w.heap.size, 5, none⟩ = false := Go.Joins.unfrozen_of_block hk.out 5
      go_wp2_with fail
      change bodyPost _ _ _ _ _ (wr.setCells w.heap.size 0 [.int .i64 0, .int .i64 0, .bool false, .bool false, .bool false, .int .i64 0])
      have hr := run_loadVar_mid (P := Try.prog) (wr.setCells w.heap.size 0 [.int .i64 0, .int .i64 0, .bool false, .bool false, .bool false, .int .i64 0]) w.heap.size 0 37 [.int .i64 0, .int .i64 0, .bool false, .bool false, .bool false, .int .i64 0] _ (World.rangeAt_setCells_same _ w.heap.size 0 [.int .i64 0, .int .i64 0, .bool false, .bool false, .bool false, .int .i64 0] TH.out) Try.underlying37 rfl rg_info
      refine bodyPost_ret (v := .tuple #[.agg #[.int .i64 0, .int .i64 0, .bool false, .bool false, .bool false, .int .i64 0], .bool false]) ?_ rfl ⟨rfl, below_setCells hb.out _ _ _ (Nat.le_refl _)⟩
      exact results_pair Try.results19 _ _ _ _ _ _ rfl rfl hr
end Go.Proofs.Ytngaodfajihmmaa
