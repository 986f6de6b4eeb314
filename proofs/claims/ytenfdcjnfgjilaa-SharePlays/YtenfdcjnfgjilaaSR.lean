/- Grants: Revoke. -/
import Derived.Test.YtenfdcjnfgjilaaSA
namespace Go.Proofs.Ytenfdcjnfgjilaa
open Go.ChangeShapes Go.WideShapes Go.ChangeAt Go.RowKit Go.Maps
set_option linter.unusedSimpArgs false
set_option linter.unusedVariables false
set_option maxRecDepth 8000
set_option maxRecDepth 8000
set_option maxRecDepth 8000

set_option maxHeartbeats 8000000 in
theorem revoke_any (b : Nat) (T : Nat → Gr) (i o : Int) (w : World) (h : IsTab w b T) :
    Calls Try.prog 18 #[.pointer (some ⟨b, 0, none⟩), .int .i64 i, .int .i64 o] w fun e w' => e = .returned (.tuple #[(revG T i o).val, .int .i64 (revE T i o)]) ∧ IsTab w' b (revT T i o) ∧ w.grownBy w' (some b) := by
  have G : Hid (∀ W : World, IsTab W b T → Calls Try.prog 14 #[.pointer (some ⟨b, 0, none⟩), .int .i64 i] W fun e w' => e = .returned (.tuple #[(getG T i).val, .bool (getG T i).is]) ∧ Below W.heap.size W w') := fun W h => get_any b T i W h
  have HT : Hid (IsTab w b T) := h
  have hb := h.2.2
  by_cases z : (getG T i).is = false
  · obtain ⟨e1, e2, e3⟩ := rev5 (o := o) (Or.inl z)
    rw [z] at G
    rw [e1, e2, e3]
    clear e1 e2 e3 h z
    generalize getG T i = l at G 
    obtain ⟨lf, lp, ld, lw, lt, la⟩ := l
    go_enter Try.func18, Try.ntmps18
    go_wp2_with fail
    refine (G.out _ (HT.out.below (Go.Joins.below_alloc1 _ _))).mono ?_
    rintro e u1 ⟨rfl, hb1⟩
    have B1 : Hid (Below w.heap.size w u1) := below_then (Go.Joins.below_alloc1 _ _) hb1
    have TB : Hid (u1.there w.heap.size 0 6) := there_below (there_block (own1 w _)) (by simp) hb1
    have RB : Hid (u1.rangeAt w.heap.size 0 [.int .i64 0, .int .i64 0, .int .i64 0, .bool false, .bool false, .int .i64 0]) := range_below (range_block w _ _) (by simp) hb1
    have lsz : w.heap.size < u1.heap.size := Nat.lt_of_lt_of_le (by simp) hb1.size
    clear hb1
    go_upto_region 2 with fail
    have T1 : Hid (IsTab (u1.alloc (.cells #[.int .i64 lf, .int .i64 lp, .int .i64 ld, .bool lw, .bool lt, .int .i64 la] 24)) b T) := HT.out.below (below_new B1.out _)
    have B2 : Hid (Below w.heap.size w (u1.alloc (.cells #[.int .i64 lf, .int .i64 lp, .int .i64 ld, .bool lw, .bool lt, .int .i64 la] 24))) := below_new B1.out _
    have TC : Hid ((u1.alloc (.cells #[.int .i64 lf, .int .i64 lp, .int .i64 ld, .bool lw, .bool lt, .int .i64 la] 24)).there w.heap.size 0 6) := there_below TB.out lsz (Go.Joins.below_alloc1 _ _)
    have RC : Hid ((u1.alloc (.cells #[.int .i64 lf, .int .i64 lp, .int .i64 ld, .bool lw, .bool lt, .int .i64 la] 24)).rangeAt u1.heap.size 0 [.int .i64 lf, .int .i64 lp, .int .i64 ld, .bool lw, .bool lt, .int .i64 la]) := range_block _ _ _
    have lB : u1.heap.size < (u1.alloc (.cells #[.int .i64 lf, .int .i64 lp, .int .i64 ld, .bool lw, .bool lt, .int .i64 la] 24)).heap.size := by simp
    have lb : b < u1.heap.size := Nat.lt_of_lt_of_le hb B1.out.size
    have RD : Hid ((u1.alloc (.cells #[.int .i64 lf, .int .i64 lp, .int .i64 ld, .bool lw, .bool lt, .int .i64 la] 24)).rangeAt w.heap.size 0 [.int .i64 0, .int .i64 0, .int .i64 0, .bool false, .bool false, .int .i64 0]) := range_below RB.out lsz (Go.Joins.below_alloc1 _ _)
    clear TB G RB
    have TB := TC
    have RB := RD
    clear TC RD
    generalize (u1.alloc (.cells #[.int .i64 lf, .int .i64 lp, .int .i64 ld, .bool lw, .bool lt, .int .i64 la] 24)) = U at T1 B2 TB RB RC lB ⊢
    have x0 := range_at RC.out 0 rfl
    have x1 := range_at RC.out 1 rfl
    have x2 := range_at RC.out 2 rfl
    have x3 := range_at RC.out 3 rfl
    have x4 := range_at RC.out 4 rfl
    have x5 := range_at RC.out 5 rfl
    have n0 := range_at RB.out 0 rfl
    have n1 := range_at RB.out 1 rfl
    have n2 := range_at RB.out 2 rfl
    have n3 := range_at RB.out 3 rfl
    have n4 := range_at RB.out 4 rfl
    have n5 := range_at RB.out 5 rfl
    have z0 : U.frozen? ⟨w.heap.size, 0, none⟩ = false := (TB.out 0 (by omega)).2
    have z1 : U.frozen? ⟨w.heap.size, 1, none⟩ = false := (TB.out 1 (by omega)).2
    have z2 : U.frozen? ⟨w.heap.size, 2, none⟩ = false := (TB.out 2 (by omega)).2
    have z3 : U.frozen? ⟨w.heap.size, 3, none⟩ = false := (TB.out 3 (by omega)).2
    have z4 : U.frozen? ⟨w.heap.size, 4, none⟩ = false := (TB.out 4 (by omega)).2
    have z5 : U.frozen? ⟨w.heap.size, 5, none⟩ = false := (TB.out 5 (by omega)).2
    go_wp2_with fail
    refine bodyPost_ret (by simp [results, Try.results18, go_sem, n0, n1, n2, n3, n4, n5]; try rfl) rfl ?_
    exact ⟨rfl, tab_box T1.out (grown6 _ _ _ _ _ _ _ _) B2.out hb, grown_box (grown6 _ _ _ _ _ _ _ _) B2.out⟩
  replace z : (getG T i).is = true := by simpa using z
  rw [z] at G
  by_cases c : (getG T i).fr = o
  · obtain ⟨e1, e2, e3⟩ := rev0 z c
    rw [e1, e2, e3]
    clear e1 e2 e3
    obtain ⟨k, rfl, hk, hg⟩ := is_in z
    rw [Int.toNat_natCast]
    rw [hg] at G c ⊢
    have k0 : (0 : Int) ≤ (k : Int) := by omega
    have k6 : (k : Int) < 256 := by omega
    clear h z hg
    obtain ⟨l, hl⟩ : ∃ l, T k = l := ⟨_, rfl⟩
    have HL : Hid (T k = l) := hl
    rw [hl] at G c ⊢
    clear hl
    obtain ⟨lf, lp, ld, lw, lt, la⟩ := l
    simp only at c
    skip
    have cb : (lf == o) = true := by simp [c]
    have cn : (lf != o) = false := by simp [c]
    clear c
    go_enter Try.func18, Try.ntmps18
    go_wp2_with fail
    refine (G.out _ (HT.out.below (Go.Joins.below_alloc1 _ _))).mono ?_
    rintro e u1 ⟨rfl, hb1⟩
    have B1 : Hid (Below w.heap.size w u1) := below_then (Go.Joins.below_alloc1 _ _) hb1
    have TB : Hid (u1.there w.heap.size 0 6) := there_below (there_block (own1 w _)) (by simp) hb1
    have RB : Hid (u1.rangeAt w.heap.size 0 [.int .i64 0, .int .i64 0, .int .i64 0, .bool false, .bool false, .int .i64 0]) := range_below (range_block w _ _) (by simp) hb1
    have lsz : w.heap.size < u1.heap.size := Nat.lt_of_lt_of_le (by simp) hb1.size
    clear hb1
    go_upto_region 2 with fail
    have T1 : Hid (IsTab (u1.alloc (.cells #[.int .i64 lf, .int .i64 lp, .int .i64 ld, .bool lw, .bool lt, .int .i64 la] 24)) b T) := HT.out.below (below_new B1.out _)
    have B2 : Hid (Below w.heap.size w (u1.alloc (.cells #[.int .i64 lf, .int .i64 lp, .int .i64 ld, .bool lw, .bool lt, .int .i64 la] 24))) := below_new B1.out _
    have TC : Hid ((u1.alloc (.cells #[.int .i64 lf, .int .i64 lp, .int .i64 ld, .bool lw, .bool lt, .int .i64 la] 24)).there w.heap.size 0 6) := there_below TB.out lsz (Go.Joins.below_alloc1 _ _)
    have RC : Hid ((u1.alloc (.cells #[.int .i64 lf, .int .i64 lp, .int .i64 ld, .bool lw, .bool lt, .int .i64 la] 24)).rangeAt u1.heap.size 0 [.int .i64 lf, .int .i64 lp, .int .i64 ld, .bool lw, .bool lt, .int .i64 la]) := range_block _ _ _
    have lB : u1.heap.size < (u1.alloc (.cells #[.int .i64 lf, .int .i64 lp, .int .i64 ld, .bool lw, .bool lt, .int .i64 la] 24)).heap.size := by simp
    have lb : b < u1.heap.size := Nat.lt_of_lt_of_le hb B1.out.size
    have RD : Hid ((u1.alloc (.cells #[.int .i64 lf, .int .i64 lp, .int .i64 ld, .bool lw, .bool lt, .int .i64 la] 24)).rangeAt w.heap.size 0 [.int .i64 0, .int .i64 0, .int .i64 0, .bool false, .bool false, .int .i64 0]) := range_below RB.out lsz (Go.Joins.below_alloc1 _ _)
    clear TB G RB
    have TB := TC
    have RB := RD
    clear TC RD
    generalize (u1.alloc (.cells #[.int .i64 lf, .int .i64 lp, .int .i64 ld, .bool lw, .bool lt, .int .i64 la] 24)) = U at T1 B2 TB RB RC lB ⊢
    have x0 := range_at RC.out 0 rfl
    have x1 := range_at RC.out 1 rfl
    have x2 := range_at RC.out 2 rfl
    have x3 := range_at RC.out 3 rfl
    have x4 := range_at RC.out 4 rfl
    have x5 := range_at RC.out 5 rfl
    go_upto_region 4 with fail
    clear x0 x1 x2 x3 x4 x5
    go_cut [25] (fun _ wx => Hid (IsTab wx b (putT T k Gr.zero)) ∧ Hid (U.grownBy wx (some b)))
    case first =>
      have c0 : U.cell? ⟨b, k * 6, none⟩ = some (.int .i64 lf) := T1.out.cell (k) (by omega) 0 _ (by rw [HL.out]; rfl) _ (by omega)
      have g0 : U.frozen? ⟨b, k * 6, none⟩ = false := T1.out.unfrozen _ (by omega)
      have c1 : U.cell? ⟨b, k * 6 + 1, none⟩ = some (.int .i64 lp) := T1.out.cell (k) (by omega) 1 _ (by rw [HL.out]; rfl) _ (by omega)
      have g1 : U.frozen? ⟨b, k * 6 + 1, none⟩ = false := T1.out.unfrozen _ (by omega)
      have c2 : U.cell? ⟨b, k * 6 + 2, none⟩ = some (.int .i64 ld) := T1.out.cell (k) (by omega) 2 _ (by rw [HL.out]; rfl) _ (by omega)
      have g2 : U.frozen? ⟨b, k * 6 + 2, none⟩ = false := T1.out.unfrozen _ (by omega)
      have c3 : U.cell? ⟨b, k * 6 + 3, none⟩ = some (.bool lw) := T1.out.cell (k) (by omega) 3 _ (by rw [HL.out]; rfl) _ (by omega)
      have g3 : U.frozen? ⟨b, k * 6 + 3, none⟩ = false := T1.out.unfrozen _ (by omega)
      have c4 : U.cell? ⟨b, k * 6 + 4, none⟩ = some (.bool lt) := T1.out.cell (k) (by omega) 4 _ (by rw [HL.out]; rfl) _ (by omega)
      have g4 : U.frozen? ⟨b, k * 6 + 4, none⟩ = false := T1.out.unfrozen _ (by omega)
      have c5 : U.cell? ⟨b, k * 6 + 5, none⟩ = some (.int .i64 la) := T1.out.cell (k) (by omega) 5 _ (by rw [HL.out]; rfl) _ (by omega)
      have g5 : U.frozen? ⟨b, k * 6 + 5, none⟩ = false := T1.out.unfrozen _ (by omega)
      go_wp2_with fail
      go_meet
      have T2 := T1.out.put k hk Gr.zero
      have G2 := grown_setCells b Gr.zero.enc (k * 6) U
      simp only [World.setCells, Gr.zero, Gr.enc] at T2 G2
      exact ⟨T2, G2⟩
    case rest =>
      obtain ⟨T2, G2⟩ := hcut
      have RV : Hid (wc.rangeAt u1.heap.size 0 [.int .i64 lf, .int .i64 lp, .int .i64 ld, .bool lw, .bool lt, .int .i64 la]) := range_grown RC.out lB (by omega) G2.out
      have TV : Hid (wc.there w.heap.size 0 6) := there_grown TB.out (by omega) (by omega) G2.out
      have RW : Hid (wc.rangeAt w.heap.size 0 [.int .i64 0, .int .i64 0, .int .i64 0, .bool false, .bool false, .int .i64 0]) := range_grown RB.out (by omega) (by omega) G2.out
      clear TB RB
      have x0 := range_at RV.out 0 rfl
      have x1 := range_at RV.out 1 rfl
      have x2 := range_at RV.out 2 rfl
      have x3 := range_at RV.out 3 rfl
      have x4 := range_at RV.out 4 rfl
      have x5 := range_at RV.out 5 rfl
      have TB := TV
      have RB := RW
      clear TV RW
      have n0 := range_at RB.out 0 rfl
      have n1 := range_at RB.out 1 rfl
      have n2 := range_at RB.out 2 rfl
      have n3 := range_at RB.out 3 rfl
      have n4 := range_at RB.out 4 rfl
      have n5 := range_at RB.out 5 rfl
      have z0 : wc.frozen? ⟨w.heap.size, 0, none⟩ = false := (TB.out 0 (by omega)).2
      have z1 : wc.frozen? ⟨w.heap.size, 1, none⟩ = false := (TB.out 1 (by omega)).2
      have z2 : wc.frozen? ⟨w.heap.size, 2, none⟩ = false := (TB.out 2 (by omega)).2
      have z3 : wc.frozen? ⟨w.heap.size, 3, none⟩ = false := (TB.out 3 (by omega)).2
      have z4 : wc.frozen? ⟨w.heap.size, 4, none⟩ = false := (TB.out 4 (by omega)).2
      have z5 : wc.frozen? ⟨w.heap.size, 5, none⟩ = false := (TB.out 5 (by omega)).2
      go_wp2_with fail
      refine bodyPost_ret (by simp [results, Try.results18, go_sem, n0, n1, n2, n3, n4, n5]; try rfl) rfl ?_
      exact ⟨rfl, tab_box2 T2.out (grown6 _ _ _ _ _ _ _ _) hb, grown_box2 B2.out G2.out (grown6 _ _ _ _ _ _ _ _)⟩
  · obtain ⟨e1, e2, e3⟩ := rev5 (o := o) (Or.inr c)
    rw [e1, e2, e3]
    clear e1 e2 e3 h z
    generalize getG T i = l at G c
    obtain ⟨lf, lp, ld, lw, lt, la⟩ := l
    simp only at c
    have cb : (lf == o) = false := by simp [c]
    have cn : (lf != o) = true := by simp [c]
    go_enter Try.func18, Try.ntmps18
    go_wp2_with fail
    refine (G.out _ (HT.out.below (Go.Joins.below_alloc1 _ _))).mono ?_
    rintro e u1 ⟨rfl, hb1⟩
    have B1 : Hid (Below w.heap.size w u1) := below_then (Go.Joins.below_alloc1 _ _) hb1
    have TB : Hid (u1.there w.heap.size 0 6) := there_below (there_block (own1 w _)) (by simp) hb1
    have RB : Hid (u1.rangeAt w.heap.size 0 [.int .i64 0, .int .i64 0, .int .i64 0, .bool false, .bool false, .int .i64 0]) := range_below (range_block w _ _) (by simp) hb1
    have lsz : w.heap.size < u1.heap.size := Nat.lt_of_lt_of_le (by simp) hb1.size
    clear hb1
    go_upto_region 2 with fail
    have T1 : Hid (IsTab (u1.alloc (.cells #[.int .i64 lf, .int .i64 lp, .int .i64 ld, .bool lw, .bool lt, .int .i64 la] 24)) b T) := HT.out.below (below_new B1.out _)
    have B2 : Hid (Below w.heap.size w (u1.alloc (.cells #[.int .i64 lf, .int .i64 lp, .int .i64 ld, .bool lw, .bool lt, .int .i64 la] 24))) := below_new B1.out _
    have TC : Hid ((u1.alloc (.cells #[.int .i64 lf, .int .i64 lp, .int .i64 ld, .bool lw, .bool lt, .int .i64 la] 24)).there w.heap.size 0 6) := there_below TB.out lsz (Go.Joins.below_alloc1 _ _)
    have RC : Hid ((u1.alloc (.cells #[.int .i64 lf, .int .i64 lp, .int .i64 ld, .bool lw, .bool lt, .int .i64 la] 24)).rangeAt u1.heap.size 0 [.int .i64 lf, .int .i64 lp, .int .i64 ld, .bool lw, .bool lt, .int .i64 la]) := range_block _ _ _
    have lB : u1.heap.size < (u1.alloc (.cells #[.int .i64 lf, .int .i64 lp, .int .i64 ld, .bool lw, .bool lt, .int .i64 la] 24)).heap.size := by simp
    have lb : b < u1.heap.size := Nat.lt_of_lt_of_le hb B1.out.size
    have RD : Hid ((u1.alloc (.cells #[.int .i64 lf, .int .i64 lp, .int .i64 ld, .bool lw, .bool lt, .int .i64 la] 24)).rangeAt w.heap.size 0 [.int .i64 0, .int .i64 0, .int .i64 0, .bool false, .bool false, .int .i64 0]) := range_below RB.out lsz (Go.Joins.below_alloc1 _ _)
    clear TB G RB
    have TB := TC
    have RB := RD
    clear TC RD
    generalize (u1.alloc (.cells #[.int .i64 lf, .int .i64 lp, .int .i64 ld, .bool lw, .bool lt, .int .i64 la] 24)) = U at T1 B2 TB RB RC lB ⊢
    have x0 := range_at RC.out 0 rfl
    have x1 := range_at RC.out 1 rfl
    have x2 := range_at RC.out 2 rfl
    have x3 := range_at RC.out 3 rfl
    have x4 := range_at RC.out 4 rfl
    have x5 := range_at RC.out 5 rfl
    have n0 := range_at RB.out 0 rfl
    have n1 := range_at RB.out 1 rfl
    have n2 := range_at RB.out 2 rfl
    have n3 := range_at RB.out 3 rfl
    have n4 := range_at RB.out 4 rfl
    have n5 := range_at RB.out 5 rfl
    have z0 : U.frozen? ⟨w.heap.size, 0, none⟩ = false := (TB.out 0 (by omega)).2
    have z1 : U.frozen? ⟨w.heap.size, 1, none⟩ = false := (TB.out 1 (by omega)).2
    have z2 : U.frozen? ⟨w.heap.size, 2, none⟩ = false := (TB.out 2 (by omega)).2
    have z3 : U.frozen? ⟨w.heap.size, 3, none⟩ = false := (TB.out 3 (by omega)).2
    have z4 : U.frozen? ⟨w.heap.size, 4, none⟩ = false := (TB.out 4 (by omega)).2
    have z5 : U.frozen? ⟨w.heap.size, 5, none⟩ = false := (TB.out 5 (by omega)).2
    go_wp2_with fail
    refine bodyPost_ret (by simp [results, Try.results18, go_sem, n0, n1, n2, n3, n4, n5]; try rfl) rfl ?_
    exact ⟨rfl, tab_box T1.out (grown6 _ _ _ _ _ _ _ _) B2.out hb, grown_box (grown6 _ _ _ _ _ _ _ _) B2.out⟩
end Go.Proofs.Ytenfdcjnfgjilaa
