/- The lines: the document's Find. -/
import Derived.Test.YtihedjlcjkbjfaaU6
namespace Go.Proofs.Ytihedjlcjkbjfaa
open Go.ChangeShapes Go.WideShapes Go.ChangeAt Go.RowKit Go.Maps
set_option linter.unusedSimpArgs false
set_option linter.unusedVariables false

theorem rl_info : (Try.prog.info? 68).map (·.size) = some 9 := by kernel_rfl
theorem findL_hit (tag page : Int) : ∀ (L : List Rl) (m : Nat), m < L.length → (∀ k, k < m → (L.getD k Rl.zero).fits tag page = false) → (L.getD m Rl.zero).fits tag page = true → findL L tag page = (L.getD m Rl.zero, true)
  | [], m, h, _, _ => absurd h (Nat.not_lt_zero _)
  | r :: l, 0, _, _, e => by
    have e' : r.fits tag page = true := by simpa [List.getD] using e
    show (if r.fits tag page = true then (r, true) else findL l tag page) = _
    rw [if_pos e']; simp [List.getD]
  | r :: l, m + 1, h, no, e => by
    have n0 : r.fits tag page = false := by have := no 0 (by omega); simpa [List.getD] using this
    show (if r.fits tag page = true then (r, true) else findL l tag page) = _
    rw [if_neg (by rw [n0]; simp), findL_hit tag page l m (by simpa using h) (fun k hk => by have := no (k + 1) (by omega); simpa [List.getD] using this) (by simpa [List.getD] using e)]
    simp [List.getD]
theorem findL_miss (tag page : Int) : ∀ (L : List Rl), (∀ k, k < L.length → (L.getD k Rl.zero).fits tag page = false) → findL L tag page = (Rl.zero, false)
  | [], _ => rfl
  | r :: l, no => by
    have n0 : r.fits tag page = false := by have := no 0 (by simp); simpa [List.getD] using this
    show (if r.fits tag page = true then (r, true) else findL l tag page) = _
    rw [if_neg (by rw [n0]; simp)]
    exact findL_miss tag page l (fun k hk => by have := no (k + 1) (by simpa using hk); simpa [List.getD] using this)
set_option maxRecDepth 8000 in
set_option maxHeartbeats 4000000 in
theorem rfind_any (base : Nat) (p : Option Addr) (c : Nat) (L : List Rl) (hL : L.length ≤ 100) (tag page : Int) (w : World) (h : IsRl w base p L) :
    Calls Try.prog 26 #[.slice p L.length c, .int .i64 tag, .int .i64 page] w fun e w' => e = .returned (.tuple #[(findL L tag page).1.val, .bool (findL L tag page).2]) ∧ Below w.heap.size w w' := by
  obtain ⟨z, hz⟩ : ∃ z, findL L tag page = z := ⟨_, rfl⟩
  rw [hz]
  have HZ : Hid (findL L tag page = z) := hz
  have HB : Hid (IsRl w base p L) := h
  clear hz h
  go_enter Try.func26, Try.ntmps26
  go_wp2_with fail
  go_loopw [12] (fun x W => ∃ m : Nat, m ≤ L.length ∧ x = .int .i64 m ∧ Hid (IsRl W base p L) ∧ Hid (Below w.heap.size w W) ∧ Hid (W.heap[w.heap.size]? = some (.cells #[.int .i64 0, .int .i64 0, .int .i64 0, .int .i64 0, .bool false, .bool false, .bool false, .bool false, .bool false] 68 (0, 0))) ∧ Hid (∀ k, k < m → (L.getD k Rl.zero).fits tag page = false)) (fun x _ => L.length - (intOf x).toNat)
  case atStart => exact ⟨0, by omega, rfl, HB.out.below (Go.Joins.below_alloc1 _ _), Go.Joins.below_alloc1 _ _, own1 w _, fun k hk => absurd hk (Nat.not_lt_zero _)⟩
  case round =>
    obtain ⟨m, hm, rfl, hI, hb, hk, hno⟩ := hrel
    have lw : w.heap.size < wr.heap.size := (Array.getElem?_eq_some_iff.1 hk.out).1
    by_cases hlm : m < L.length
    · have hd : decide ((m : Int) < (L.length : Int)) = true := by simp; omega
      obtain ⟨g, rfl, g1, g2, gc⟩ := hI.out m hlm
      have HIT : Hid ((L.getD m Rl.zero).fits tag page = true → z = (L.getD m Rl.zero, true)) := fun e => by rw [← HZ.out]; exact findL_hit tag page L m hlm hno.out e
      have NX : Hid ((L.getD m Rl.zero).fits tag page = false → ∀ k, k < m + 1 → (L.getD k Rl.zero).fits tag page = false) := fun e k hk => by
        by_cases q : k = m
        · subst q; exact e
        · exact hno.out k (by omega)
      generalize L.getD m Rl.zero = bx at gc HIT NX
      have FC : Hid _ := rfits_any bx tag page
      generalize Rl.fits bx tag page = fb at FC HIT NX
      obtain ⟨ry, rt, rp, rf, rw, ru, rx, rg, rd⟩ := bx
      have y0 : wr.cell? ⟨g, m * 9, none⟩ = some (.int .i64 ry) := gc 0 _ rfl
      have y1 : wr.cell? ⟨g, m * 9 + 1, none⟩ = some (.int .i64 rt) := gc 1 _ rfl
      have y2 : wr.cell? ⟨g, m * 9 + 2, none⟩ = some (.int .i64 rp) := gc 2 _ rfl
      have y3 : wr.cell? ⟨g, m * 9 + 3, none⟩ = some (.int .i64 rf) := gc 3 _ rfl
      have y4 : wr.cell? ⟨g, m * 9 + 4, none⟩ = some (.bool rw) := gc 4 _ rfl
      have y5 : wr.cell? ⟨g, m * 9 + 5, none⟩ = some (.bool ru) := gc 5 _ rfl
      have y6 : wr.cell? ⟨g, m * 9 + 6, none⟩ = some (.bool rx) := gc 6 _ rfl
      have y7 : wr.cell? ⟨g, m * 9 + 7, none⟩ = some (.bool rg) := gc 7 _ rfl
      have y8 : wr.cell? ⟨g, m * 9 + 8, none⟩ = some (.bool rd) := gc 8 _ rfl
      clear gc
      go_wp2_with fail
      refine (FC.out _).mono ?_
      rintro e u1 ⟨rfl, hb1⟩
      have B1 : Hid (Below w.heap.size w u1) := below_then (below_new hb.out _) hb1
      have I1 : Hid (IsRl u1 base (some ⟨g, 0, none⟩) L) := (hI.out.below (Go.Joins.below_alloc1 _ _)).below hb1
      have K1 : Hid (u1.heap[w.heap.size]? = some (.cells #[.int .i64 0, .int .i64 0, .int .i64 0, .int .i64 0, .bool false, .bool false, .bool false, .bool false, .bool false] 68 (0, 0))) := (hb1.block _ (by rw [World.size_alloc]; omega)).trans (((Go.Joins.below_alloc1 wr _).block _ lw).trans hk.out)
      have X1 : Hid (u1.heap[wr.heap.size]? = some (.cells #[.int .i64 ry, .int .i64 rt, .int .i64 rp, .int .i64 rf, .bool rw, .bool ru, .bool rx, .bool rg, .bool rd] 68 (0, 0))) := (hb1.block _ (by rw [World.size_alloc]; omega)).trans (own1 wr _)
      clear hb1 hb hI hk y0 y1 y2 y3 y4 y5 y6 y7 y8
      cases fb
      · have N2 : Hid (∀ k, k < m + 1 → (L.getD k Rl.zero).fits tag page = false) := NX.out rfl
        clear NX HIT X1
        go_wp2_with fail
        go_roundw
        case rel => exact ⟨m + 1, by omega, by go_num, I1, B1, K1, N2⟩
        case measure => simp [intOf]; omega
      · have ez := HIT.out rfl
        subst ez
        clear HIT NX HZ I1
        have TH : Hid (u1.there w.heap.size 0 9) := there_block K1.out
        have lx : wr.heap.size < u1.heap.size := (Array.getElem?_eq_some_iff.1 X1.out).1
        generalize wr.heap.size = xb at X1 lx ⊢
        have x0 : u1.cell? ⟨xb, 0, none⟩ = some (.int .i64 ry) := Go.Joins.cell_of_block X1.out 0
        have x1 : u1.cell? ⟨xb, 1, none⟩ = some (.int .i64 rt) := Go.Joins.cell_of_block X1.out 1
        have x2 : u1.cell? ⟨xb, 2, none⟩ = some (.int .i64 rp) := Go.Joins.cell_of_block X1.out 2
        have x3 : u1.cell? ⟨xb, 3, none⟩ = some (.int .i64 rf) := Go.Joins.cell_of_block X1.out 3
        have x4 : u1.cell? ⟨xb, 4, none⟩ = some (.bool rw) := Go.Joins.cell_of_block X1.out 4
        have x5 : u1.cell? ⟨xb, 5, none⟩ = some (.bool ru) := Go.Joins.cell_of_block X1.out 5
        have x6 : u1.cell? ⟨xb, 6, none⟩ = some (.bool rx) := Go.Joins.cell_of_block X1.out 6
        have x7 : u1.cell? ⟨xb, 7, none⟩ = some (.bool rg) := Go.Joins.cell_of_block X1.out 7
        have x8 : u1.cell? ⟨xb, 8, none⟩ = some (.bool rd) := Go.Joins.cell_of_block X1.out 8
        clear X1 K1
        go_wp2_with (refine store_pat (x := .tmp 6) w.heap.size 0 #[.int .i64 ry, .int .i64 rt, .int .i64 rp, .int .i64 rf, .bool rw, .bool ru, .bool rx, .bool rg, .bool rd] ?hx ?hy ?ht ?hi ?h1 ?rest; (case hx => rfl); (case hy => rfl); (case ht => exact TH.out); (case hi => exact rl_info); (case h1 => simp [Value.oneCell']); generalize hW2 : World.setCells _ _ _ _ = W2; have HW2 : Hid (u1.setCells w.heap.size 0 [.int .i64 ry, .int .i64 rt, .int .i64 rp, .int .i64 rf, .bool rw, .bool ru, .bool rx, .bool rg, .bool rd] = W2) := hW2; clear hW2)
        have hr := run_loadVar_mid (P := Try.prog) (u1.setCells w.heap.size 0 [.int .i64 ry, .int .i64 rt, .int .i64 rp, .int .i64 rf, .bool rw, .bool ru, .bool rx, .bool rg, .bool rd]) w.heap.size 0 68 [.int .i64 ry, .int .i64 rt, .int .i64 rp, .int .i64 rf, .bool rw, .bool ru, .bool rx, .bool rg, .bool rd] _ (World.rangeAt_setCells_same _ w.heap.size 0 [.int .i64 ry, .int .i64 rt, .int .i64 rp, .int .i64 rf, .bool rw, .bool ru, .bool rx, .bool rg, .bool rd] TH.out) Try.underlying68 rfl rl_info
        have hb2 := below_setCells B1.out w.heap.size 0 [.int .i64 ry, .int .i64 rt, .int .i64 rp, .int .i64 rf, .bool rw, .bool ru, .bool rx, .bool rg, .bool rd] (Nat.le_refl _)
        rw [HW2.out] at hr hb2
        refine bodyPost_ret (v := .tuple #[.agg #[.int .i64 ry, .int .i64 rt, .int .i64 rp, .int .i64 rf, .bool rw, .bool ru, .bool rx, .bool rg, .bool rd], .bool true]) ?_ rfl ⟨rfl, hb2⟩
        exact results_pair Try.results26 _ _ _ _ _ _ rfl rfl hr
    · obtain rfl : m = L.length := by omega
      have hd : decide ((L.length : Int) < (L.length : Int)) = false := by simp
      have ez : z = (Rl.zero, false) := by rw [← HZ.out]; exact findL_miss tag page L hno.out
      subst ez
      have TH : Hid (wr.there w.heap.size 0 9) := there_block hk.out
      clear HZ hno
      have r0 : wr.cell? ⟨w.heap.size, 0, none⟩ = some (.int .i64 0) := Go.Joins.cell_of_block hk.out 0
      have f0 : wr.frozen? ⟨w.heap.size, 0, none⟩ = false := Go.Joins.unfrozen_of_block hk.out 0
      have r1 : wr.cell? ⟨w.heap.size, 1, none⟩ = some (.int .i64 0) := Go.Joins.cell_of_block hk.out 1
      have f1 : wr.frozen? ⟨w.heap.size, 1, none⟩ = false := Go.Joins.unfrozen_of_block hk.out 1
      have r2 : wr.cell? ⟨w.heap.size, 2, none⟩ = some (.int .i64 0) := Go.Joins.cell_of_block hk.out 2
      have f2 : wr.frozen? ⟨w.heap.size, 2, none⟩ = false := Go.Joins.unfrozen_of_block hk.out 2
      have r3 : wr.cell? ⟨w.heap.size, 3, none⟩ = some (.int .i64 0) := Go.Joins.cell_of_block hk.out 3
      have f3 : wr.frozen? ⟨w.heap.size, 3, none⟩ = false := Go.Joins.unfrozen_of_block hk.out 3
      have r4 : wr.cell? ⟨w.heap.size, 4, none⟩ = some (.bool false) := Go.Joins.cell_of_block hk.out 4
      have f4 : wr.frozen? ⟨w.heap.size, 4, none⟩ = false := Go.Joins.unfrozen_of_block hk.out 4
      have r5 : wr.cell? ⟨w.heap.size, 5, none⟩ = some (.bool false) := Go.Joins.cell_of_block hk.out 5
      have f5 : wr.frozen? ⟨w.heap.size, 5, none⟩ = false := Go.Joins.unfrozen_of_block hk.out 5
      have r6 : wr.cell? ⟨w.heap.size, 6, none⟩ = some (.bool false) := Go.Joins.cell_of_block hk.out 6
      have f6 : wr.frozen? ⟨w.heap.size, 6, none⟩ = false := Go.Joins.unfrozen_of_block hk.out 6
      have r7 : wr.cell? ⟨w.heap.size, 7, none⟩ = some (.bool false) := Go.Joins.cell_of_block hk.out 7
      have f7 : wr.frozen? ⟨w.heap.size, 7, none⟩ = false := Go.Joins.unfrozen_of_block hk.out 7
      have r8 : wr.cell? ⟨w.heap.size, 8, none⟩ = some (.bool false) := Go.Joins.cell_of_block hk.out 8
      have f8 : wr.frozen? ⟨w.heap.size, 8, none⟩ = false := Go.Joins.unfrozen_of_block hk.out 8
      go_wp2_with fail
      change bodyPost _ _ _ _ _ (wr.setCells w.heap.size 0 [.int .i64 0, .int .i64 0, .int .i64 0, .int .i64 0, .bool false, .bool false, .bool false, .bool false, .bool false])
      have hr := run_loadVar_mid (P := Try.prog) (wr.setCells w.heap.size 0 [.int .i64 0, .int .i64 0, .int .i64 0, .int .i64 0, .bool false, .bool false, .bool false, .bool false, .bool false]) w.heap.size 0 68 [.int .i64 0, .int .i64 0, .int .i64 0, .int .i64 0, .bool false, .bool false, .bool false, .bool false, .bool false] _ (World.rangeAt_setCells_same _ w.heap.size 0 [.int .i64 0, .int .i64 0, .int .i64 0, .int .i64 0, .bool false, .bool false, .bool false, .bool false, .bool false] TH.out) Try.underlying68 rfl rl_info
      have hb2 := below_setCells hb.out w.heap.size 0 [.int .i64 0, .int .i64 0, .int .i64 0, .int .i64 0, .bool false, .bool false, .bool false, .bool false, .bool false] (Nat.le_refl _)
      refine bodyPost_ret (v := .tuple #[.agg #[.int .i64 0, .int .i64 0, .int .i64 0, .int .i64 0, .bool false, .bool false, .bool false, .bool false, .bool false], .bool false]) ?_ rfl ⟨rfl, hb2⟩
      exact results_pair Try.results26 _ _ _ _ _ _ rfl rfl hr
end Go.Proofs.Ytihedjlcjkbjfaa
