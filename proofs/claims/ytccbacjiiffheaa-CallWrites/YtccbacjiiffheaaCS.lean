/- The document's Read. -/
import Derived.Test.YtccbacjiiffheaaCN
namespace Go.Proofs.Ytccbacjiiffheaa
open Go.ChangeShapes Go.WideShapes Go.ChangeAt Go.RowKit Go.Maps
set_option linter.unusedSimpArgs false
set_option linter.unusedVariables false

set_option maxRecDepth 8000 in
set_option maxHeartbeats 8000000 in
theorem rpages_any (p n : Int) (hp : 0 ≤ p ∧ p < 18446744073709551616) (hn : 0 ≤ n ∧ n < 18446744073709551616) (w : World) : Calls Try.prog 24 #[.int .u64 p, .int .u64 n] w fun e w' => e = .returned (.bool (decide (pagesOk p n))) ∧ w' = w := by
  by_cases h1 : p < 34359738368
  rotate_left
  · rw [decide_eq_false (fun z => h1 z.1)]
    have d1 : decide (p < 34359738368) = false := by simp; omega
    go_enter Try.func24, Try.ntmps24
    go_wp2_with fail
    go_returns
    exact ⟨rfl, rfl⟩
  have d1 : decide (p < 34359738368) = true := by simp; omega
  by_cases h2 : 1 ≤ n
  rotate_left
  · rw [decide_eq_false (fun z => h2 (by have := z.2.2.1; omega))]
    have d2 : decide (1 ≤ n) = false := by simp; omega
    go_enter Try.func24, Try.ntmps24
    go_wp2_with fail
    go_returns
    exact ⟨rfl, rfl⟩
  have d2 : decide (1 ≤ n) = true := by simp; omega
  by_cases h3 : n ≤ 65536
  rotate_left
  · rw [decide_eq_false (fun z => h3 (by have := z.2.1; omega))]
    have d3 : decide (n ≤ 65536) = false := by simp; omega
    go_enter Try.func24, Try.ntmps24
    go_wp2_with fail
    go_returns
    exact ⟨rfl, rfl⟩
  have d3 : decide (n ≤ 65536) = true := by simp; omega
  by_cases h4 : p + n ≤ 34359738368
  · rw [decide_eq_true (show pagesOk p n from ⟨h1, by omega, by omega, h4⟩)]
    have d4 : decide (p + n ≤ 34359738368) = true := by simp; omega
    go_enter Try.func24, Try.ntmps24
    go_wp2_with fail
    go_returns
    exact ⟨rfl, rfl⟩
  · rw [decide_eq_false (fun z => h4 z.2.2.2)]
    have d4 : decide (p + n ≤ 34359738368) = false := by simp; omega
    go_enter Try.func24, Try.ntmps24
    go_wp2_with fail
    go_returns
    exact ⟨rfl, rfl⟩
set_option maxRecDepth 8000 in
set_option maxHeartbeats 8000000 in
theorem rspot_any (a s : Int) (ha : 0 ≤ a ∧ a < 18446744073709551616) (hs : 0 ≤ s ∧ s < 18446744073709551616) (w : World) : Calls Try.prog 25 #[.int .u64 a, .int .u64 s] w fun e w' => e = .returned (.bool (decide (spotOk a s))) ∧ w' = w := by
  by_cases h1 : a < 140737488355328
  rotate_left
  · rw [decide_eq_false (fun z => h1 z.1)]
    have d1 : decide (a < 140737488355328) = false := by simp; omega
    go_enter Try.func25, Try.ntmps25
    go_wp2_with fail
    go_returns
    exact ⟨rfl, rfl⟩
  have d1 : decide (a < 140737488355328) = true := by simp; omega
  by_cases h2 : s = 1 ∨ s = 2 ∨ s = 4 ∨ s = 8
  rotate_left
  · rw [decide_eq_false (fun z => h2 z.2.1)]
    have e1 : (s == 1) = false := by simp; omega
    have e2 : (s == 2) = false := by simp; omega
    have e4 : (s == 4) = false := by simp; omega
    have e8 : (s == 8) = false := by simp; omega
    go_enter Try.func25, Try.ntmps25
    go_wp2_with fail
    go_returns
    exact ⟨rfl, rfl⟩
  rcases h2 with rfl | rfl | rfl | rfl
  · rw [decide_eq_true (show spotOk a 1 from ⟨h1, by omega, Int.emod_one a⟩)]
    have hm : a % 1 = 0 := Int.emod_one a
    go_enter Try.func25, Try.ntmps25
    go_wp2_with fail
    go_returns
    exact ⟨rfl, rfl⟩
  · by_cases h3 : a % 2 = 0
    · rw [decide_eq_true (show spotOk a 2 from ⟨h1, by omega, h3⟩)]
      go_enter Try.func25, Try.ntmps25
      go_wp2_with fail
      go_returns
      exact ⟨rfl, rfl⟩
    · rw [decide_eq_false (fun z => h3 z.2.2)]
      have t1 : (a % 2 == 0) = false := by simp only [beq_eq_false_iff_ne]; exact h3
      go_enter Try.func25, Try.ntmps25
      go_wp2_with fail
      go_returns
      exact ⟨rfl, rfl⟩
  · by_cases h3 : a % 4 = 0
    · rw [decide_eq_true (show spotOk a 4 from ⟨h1, by omega, h3⟩)]
      go_enter Try.func25, Try.ntmps25
      go_wp2_with fail
      go_returns
      exact ⟨rfl, rfl⟩
    · rw [decide_eq_false (fun z => h3 z.2.2)]
      have t1 : (a % 4 == 0) = false := by simp only [beq_eq_false_iff_ne]; exact h3
      go_enter Try.func25, Try.ntmps25
      go_wp2_with fail
      go_returns
      exact ⟨rfl, rfl⟩
  · by_cases h3 : a % 8 = 0
    · rw [decide_eq_true (show spotOk a 8 from ⟨h1, by omega, h3⟩)]
      go_enter Try.func25, Try.ntmps25
      go_wp2_with fail
      go_returns
      exact ⟨rfl, rfl⟩
    · rw [decide_eq_false (fun z => h3 z.2.2)]
      have t1 : (a % 8 == 0) = false := by simp only [beq_eq_false_iff_ne]; exact h3
      go_enter Try.func25, Try.ntmps25
      go_wp2_with fail
      go_returns
      exact ⟨rfl, rfl⟩
theorem refcall_info : (Try.prog.info? 35).map (·.size) = some 13 := by kernel_rfl
theorem below_scsR {n b : Nat} {w X : World} (h : Below n w X) (hb : n ≤ b) : ∀ (vs : List Value) (o : Nat), Below n w (X.setCells b o vs) := fun vs => by
  induction vs generalizing X with
  | nil => intro o; exact h
  | cons v r ih => intro o; rw [World.setCells]; exact ih (h.setCell hb v) _
set_option maxRecDepth 8000 in
set_option maxHeartbeats 8000000 in
theorem refU (x0 x1 x2 x3 x4 x5 : Int) (hu : usedV x0 = -1) (w : World) : Calls Try.prog 10 #[.agg #[.int .u64 x0, .int .u64 x1, .int .u64 x2, .int .u64 x3, .int .u64 x4, .int .u64 x5]] w fun e w' => e = .returned (.tuple #[.agg #[.int .i64 0, .int .i64 0, .int .i64 0, .bool false, .bool false, .bool false, .int .u64 0, .int .i64 0, .int .u64 0, .int .i64 0, .int .i64 0, .int .i64 0, .int .i64 0], .bool false]) ∧ Below w.heap.size w w' := by
  have US2 : Hid (∀ W : World, Calls Try.prog 14 #[.int .u64 x0] W fun e w' => e = .returned (.int .i64 (-1)) ∧ w' = W) := fun W => by have := used_any x0 W; rw [hu] at this; exact this
  clear hu
  go_enter Try.func10, Try.ntmps10
  go_wp2_with fail
  refine (US2.out _).mono ?_
  rintro e u2 ⟨rfl, hu⟩
  subst hu
  go_wp2_with fail
  go_returns
  exact ⟨rfl, Go.Joins.below_alloc2 _ _ _⟩
set_option maxRecDepth 8000 in
set_option maxHeartbeats 8000000 in
theorem refZ (x0 x1 x2 x3 x4 x5 : Int) (n : Nat) (hn : n < 6) (hu : usedV x0 + 1 = n) (hz : ¬ restZ ⟨x0, x1, x2, x3, x4, x5⟩ n) (w : World) : Calls Try.prog 10 #[.agg #[.int .u64 x0, .int .u64 x1, .int .u64 x2, .int .u64 x3, .int .u64 x4, .int .u64 x5]] w fun e w' => e = .returned (.tuple #[.agg #[.int .i64 0, .int .i64 0, .int .i64 0, .bool false, .bool false, .bool false, .int .u64 0, .int .i64 0, .int .u64 0, .int .i64 0, .int .i64 0, .int .i64 0, .int .i64 0], .bool false]) ∧ Below w.heap.size w w' := by
  obtain ⟨U, hU⟩ : ∃ U, U = usedV x0 := ⟨_, rfl⟩
  have US2 : Hid (∀ W : World, Calls Try.prog 14 #[.int .u64 x0] W fun e w' => e = .returned (.int .i64 U) ∧ w' = W) := fun W => by have := used_any x0 W; rw [← hU] at this; exact this
  rw [← hU] at hu
  have u0 : -1 ≤ U := by omega
  by_cases um : U = -1
  · exact refU x0 x1 x2 x3 x4 x5 (hU.symm.trans um) w
  have du : decide (U < 0) = false := by simp; omega
  have HZ : Hid (¬ restZ ⟨x0, x1, x2, x3, x4, x5⟩ n) := hz
  have HN : Hid (U + 1 = (n : Int)) := hu
  have hun : U + 1 = (n : Int) := hu
  clear hz hU hu
  have Z0 : Hid (Blk ((w.alloc (.cells #[.int .u64 x0, .int .u64 x1, .int .u64 x2, .int .u64 x3, .int .u64 x4, .int .u64 x5] 23)).alloc (.cells #[.int .i64 0, .int .i64 0, .int .i64 0, .bool false, .bool false, .bool false, .int .u64 0, .int .i64 0, .int .u64 0, .int .i64 0, .int .i64 0, .int .i64 0, .int .i64 0] 35)) w.heap.size [.int .u64 x0, .int .u64 x1, .int .u64 x2, .int .u64 x3, .int .u64 x4, .int .u64 x5] 23) := (Blk.made w _ _).below (Go.Joins.below_alloc1 _ _)
  have Q0 : Hid (Blk ((w.alloc (.cells #[.int .u64 x0, .int .u64 x1, .int .u64 x2, .int .u64 x3, .int .u64 x4, .int .u64 x5] 23)).alloc (.cells #[.int .i64 0, .int .i64 0, .int .i64 0, .bool false, .bool false, .bool false, .int .u64 0, .int .i64 0, .int .u64 0, .int .i64 0, .int .i64 0, .int .i64 0, .int .i64 0] 35)) (w.heap.size + 1) [.int .i64 0, .int .i64 0, .int .i64 0, .bool false, .bool false, .bool false, .int .u64 0, .int .i64 0, .int .u64 0, .int .i64 0, .int .i64 0, .int .i64 0, .int .i64 0] 35) := by
    have := Blk.made (w.alloc (.cells #[.int .u64 x0, .int .u64 x1, .int .u64 x2, .int .u64 x3, .int .u64 x4, .int .u64 x5] 23)) [.int .i64 0, .int .i64 0, .int .i64 0, .bool false, .bool false, .bool false, .int .u64 0, .int .i64 0, .int .u64 0, .int .i64 0, .int .i64 0, .int .i64 0, .int .i64 0] 35
    rw [World.size_alloc] at this; exact this
  have BB : Hid (Below w.heap.size w ((w.alloc (.cells #[.int .u64 x0, .int .u64 x1, .int .u64 x2, .int .u64 x3, .int .u64 x4, .int .u64 x5] 23)).alloc (.cells #[.int .i64 0, .int .i64 0, .int .i64 0, .bool false, .bool false, .bool false, .int .u64 0, .int .i64 0, .int .u64 0, .int .i64 0, .int .i64 0, .int .i64 0, .int .i64 0] 35))) := Go.Joins.below_alloc2 _ _ _
  have CE : Hid (∀ (V : World), Blk V w.heap.size [.int .u64 x0, .int .u64 x1, .int .u64 x2, .int .u64 x3, .int .u64 x4, .int .u64 x5] 23 → ∀ i, i < 6 → V.cell? ⟨w.heap.size, i, none⟩ = some (.int .u64 ((Wd.mk x0 x1 x2 x3 x4 x5).at i))) := fun V h i hi => by
    rw [h.cell i]
    match i, hi with
    | 0, _ => rfl
    | 1, _ => rfl
    | 2, _ => rfl
    | 3, _ => rfl
    | 4, _ => rfl
    | 5, _ => rfl
  go_enter Try.func10, Try.ntmps10
  go_wp2_with fail
  refine (US2.out _).mono ?_
  rintro e u2 ⟨rfl, hu⟩
  subst hu
  go_wp2_with fail
  go_loopw [5] (fun x V => ∃ k : Nat, n ≤ k ∧ k ≤ 6 ∧ x = .int .i64 k ∧ Hid (∀ j, n ≤ j → j < k → (Wd.mk x0 x1 x2 x3 x4 x5).at j = 0) ∧ V = ((w.alloc (.cells #[.int .u64 x0, .int .u64 x1, .int .u64 x2, .int .u64 x3, .int .u64 x4, .int .u64 x5] 23)).alloc (.cells #[.int .i64 0, .int .i64 0, .int .i64 0, .bool false, .bool false, .bool false, .int .u64 0, .int .i64 0, .int .u64 0, .int .i64 0, .int .i64 0, .int .i64 0, .int .i64 0] 35))) (fun x _ => 6 - (intOf x).toNat)
  case atStart => exact ⟨n, Nat.le_refl _, by omega, by rw [← HN.out], fun j h1 h2 => absurd h1 (by omega), rfl⟩
  case round =>
    obtain ⟨k, hk0, hk, rfl, hj, hV⟩ := hrel
    by_cases hlt : k < 6
    · have hd : decide ((k : Int) < 6) = true := by simp; omega
      have c0 := CE.out wr (by rw [hV]; exact Z0.out) k hlt
      have lt0 : w.heap.size < wr.heap.size := by rw [hV]; simp; omega
      by_cases z : (Wd.mk x0 x1 x2 x3 x4 x5).at k = 0
      · rw [z] at c0
        have HJ : Hid (∀ j, n ≤ j → j < k + 1 → (Wd.mk x0 x1 x2 x3 x4 x5).at j = 0) := fun j h1 h2 => by
          rcases Nat.lt_succ_iff_lt_or_eq.1 h2 with q | rfl
          · exact hj.out j h1 q
          · exact z
        have HV : Hid (wr = ((w.alloc (.cells #[.int .u64 x0, .int .u64 x1, .int .u64 x2, .int .u64 x3, .int .u64 x4, .int .u64 x5] 23)).alloc (.cells #[.int .i64 0, .int .i64 0, .int .i64 0, .bool false, .bool false, .bool false, .int .u64 0, .int .i64 0, .int .u64 0, .int .i64 0, .int .i64 0, .int .i64 0, .int .i64 0] 35))) := hV
        clear z hV
        go_wp2_with fail
        go_roundw
        case rel => exact ⟨k + 1, by omega, by omega, by go_num, HJ, HV.out⟩
        case measure => simp [intOf]; omega
      · generalize (Wd.mk x0 x1 x2 x3 x4 x5).at k = y at c0 z
        have z2 : (y == 0) = false := by simp [z]
        have Q1 : Hid (Blk wr (w.heap.size + 1) [.int .i64 0, .int .i64 0, .int .i64 0, .bool false, .bool false, .bool false, .int .u64 0, .int .i64 0, .int .u64 0, .int .i64 0, .int .i64 0, .int .i64 0, .int .i64 0] 35) := by show Blk _ _ _ _; rw [hV]; exact Q0.out
        have B1 : Hid (Below w.heap.size w wr) := by show Below _ _ _; rw [hV]; exact BB.out
        clear hV
        have lq : w.heap.size + 1 < wr.heap.size := blk_lt Q1.out
        have qc0 : wr.cell? ⟨(w.heap.size + 1), 0, none⟩ = some (.int .i64 0) := Q1.out.cell 0
        have qf0 : wr.frozen? ⟨(w.heap.size + 1), 0, none⟩ = false := Q1.out.free 0
        have qc1 : wr.cell? ⟨(w.heap.size + 1), 1, none⟩ = some (.int .i64 0) := Q1.out.cell 1
        have qf1 : wr.frozen? ⟨(w.heap.size + 1), 1, none⟩ = false := Q1.out.free 1
        have qc2 : wr.cell? ⟨(w.heap.size + 1), 2, none⟩ = some (.int .i64 0) := Q1.out.cell 2
        have qf2 : wr.frozen? ⟨(w.heap.size + 1), 2, none⟩ = false := Q1.out.free 2
        have qc3 : wr.cell? ⟨(w.heap.size + 1), 3, none⟩ = some (.bool false) := Q1.out.cell 3
        have qf3 : wr.frozen? ⟨(w.heap.size + 1), 3, none⟩ = false := Q1.out.free 3
        have qc4 : wr.cell? ⟨(w.heap.size + 1), 4, none⟩ = some (.bool false) := Q1.out.cell 4
        have qf4 : wr.frozen? ⟨(w.heap.size + 1), 4, none⟩ = false := Q1.out.free 4
        have qc5 : wr.cell? ⟨(w.heap.size + 1), 5, none⟩ = some (.bool false) := Q1.out.cell 5
        have qf5 : wr.frozen? ⟨(w.heap.size + 1), 5, none⟩ = false := Q1.out.free 5
        have qc6 : wr.cell? ⟨(w.heap.size + 1), 6, none⟩ = some (.int .u64 0) := Q1.out.cell 6
        have qf6 : wr.frozen? ⟨(w.heap.size + 1), 6, none⟩ = false := Q1.out.free 6
        have qc7 : wr.cell? ⟨(w.heap.size + 1), 7, none⟩ = some (.int .i64 0) := Q1.out.cell 7
        have qf7 : wr.frozen? ⟨(w.heap.size + 1), 7, none⟩ = false := Q1.out.free 7
        have qc8 : wr.cell? ⟨(w.heap.size + 1), 8, none⟩ = some (.int .u64 0) := Q1.out.cell 8
        have qf8 : wr.frozen? ⟨(w.heap.size + 1), 8, none⟩ = false := Q1.out.free 8
        have qc9 : wr.cell? ⟨(w.heap.size + 1), 9, none⟩ = some (.int .i64 0) := Q1.out.cell 9
        have qf9 : wr.frozen? ⟨(w.heap.size + 1), 9, none⟩ = false := Q1.out.free 9
        have qc10 : wr.cell? ⟨(w.heap.size + 1), 10, none⟩ = some (.int .i64 0) := Q1.out.cell 10
        have qf10 : wr.frozen? ⟨(w.heap.size + 1), 10, none⟩ = false := Q1.out.free 10
        have qc11 : wr.cell? ⟨(w.heap.size + 1), 11, none⟩ = some (.int .i64 0) := Q1.out.cell 11
        have qf11 : wr.frozen? ⟨(w.heap.size + 1), 11, none⟩ = false := Q1.out.free 11
        have qc12 : wr.cell? ⟨(w.heap.size + 1), 12, none⟩ = some (.int .i64 0) := Q1.out.cell 12
        have qf12 : wr.frozen? ⟨(w.heap.size + 1), 12, none⟩ = false := Q1.out.free 12
        go_wp2_with fail
        change bodyPost _ _ _ _ _ (wr.setCells (w.heap.size + 1) 0 [.int .i64 0, .int .i64 0, .int .i64 0, .bool false, .bool false, .bool false, .int .u64 0, .int .i64 0, .int .u64 0, .int .i64 0, .int .i64 0, .int .i64 0, .int .i64 0])
        have hr := run_loadVar_mid (P := Try.prog) (wr.setCells (w.heap.size + 1) 0 [.int .i64 0, .int .i64 0, .int .i64 0, .bool false, .bool false, .bool false, .int .u64 0, .int .i64 0, .int .u64 0, .int .i64 0, .int .i64 0, .int .i64 0, .int .i64 0]) (w.heap.size + 1) 0 35 [.int .i64 0, .int .i64 0, .int .i64 0, .bool false, .bool false, .bool false, .int .u64 0, .int .i64 0, .int .u64 0, .int .i64 0, .int .i64 0, .int .i64 0, .int .i64 0] _ (World.rangeAt_setCells_same _ (w.heap.size + 1) 0 [.int .i64 0, .int .i64 0, .int .i64 0, .bool false, .bool false, .bool false, .int .u64 0, .int .i64 0, .int .u64 0, .int .i64 0, .int .i64 0, .int .i64 0, .int .i64 0] (show wr.there (w.heap.size + 1) 0 13 from Q1.out.there)) Try.underlying35 rfl refcall_info
        refine bodyPost_ret (v := .tuple #[.agg #[.int .i64 0, .int .i64 0, .int .i64 0, .bool false, .bool false, .bool false, .int .u64 0, .int .i64 0, .int .u64 0, .int .i64 0, .int .i64 0, .int .i64 0, .int .i64 0], .bool false]) ?_ rfl ⟨rfl, below_scsR B1.out (by omega) _ _⟩
        exact results_pair Try.results10 _ _ _ _ _ _ rfl rfl hr
    · exact absurd (fun i h1 h2 => hj.out i h1 (by omega)) HZ.out
end Go.Proofs.Ytccbacjiiffheaa
