/- Grants: the document's Revoke. -/
import Derived.Test.YtenfdcjnfgjilaaXF
import Derived.Deep.DeepCutAuto
namespace Go.Proofs.Ytenfdcjnfgjilaa
open Go.ChangeShapes Go.WideShapes Go.ChangeAt Go.RowKit Go.Maps
set_option linter.unusedSimpArgs false
set_option linter.unusedVariables false
set_option maxRecDepth 8000
set_option maxRecDepth 8000
set_option maxRecDepth 8000

theorem grown7R (u : World) (n : Nat) (v0 v1 v2 v3 v4 v5 v6 : Value) : u.grownBy (((((((u.setCell ⟨n, 0, none⟩ v0).setCell ⟨n, 1, none⟩ v1).setCell ⟨n, 2, none⟩ v2).setCell ⟨n, 3, none⟩ v3).setCell ⟨n, 4, none⟩ v4).setCell ⟨n, 5, none⟩ v5).setCell ⟨n, 6, none⟩ v6) (some n) := grown_trans (grown_trans (grown_trans (grown_trans (grown_trans (grown_trans (grown_setCell1 _ _ _ _) (grown_setCell1 _ _ _ _)) (grown_setCell1 _ _ _ _)) (grown_setCell1 _ _ _ _)) (grown_setCell1 _ _ _ _)) (grown_setCell1 _ _ _ _)) (grown_setCell1 _ _ _ _)
set_option maxHeartbeats 16000000 in
theorem rrevoke_row (T : Nat → Gr) (base : Nat) (q : Option Addr) (c : Nat) (i o : Int) (w : World) (h : IsRq w base q (rowG T 256)) (hbw : base ≤ w.heap.size) :
    Calls Try.prog 25 #[.slice q (rowG T 256).length c, .int .i64 i, .int .i64 o] w fun e w' => (∃ p' c', e = .returned (.tuple #[.slice p' (rowG (revT T i o) 256).length c', (if revE T i o = 0 then tellG (revG T i o) i else Rq.zero).val, .int .i64 (revE T i o)]) ∧ IsRq w' base p' (rowG (revT T i o) 256)) ∧ Below w.heap.size w w' := by
  have HI : Hid (IsRq w base q (rowG T 256)) := h
  have FI := fun W h => rfind_row T base q c i W h
  clear h
  by_cases z : (getG T i).is = false
  · obtain ⟨e1, e2, e3⟩ := rev5 (o := o) (Or.inl z)
    rw [e1, e3, if_neg (by decide)]
    rw [findV_no z, z] at FI
    clear e1 e2 e3 z
    simp only [Rq.zero] at FI ⊢
    obtain ⟨n0, hn0⟩ : ∃ n0, (rowG T 256).length = n0 := ⟨_, rfl⟩
    rw [hn0] at FI  ⊢
    clear hn0
    have FI : Hid _ := FI
    go_enter Try.func25, Try.ntmps25
    go_wp2_with fail
    refine (FI.out _ (HI.out.below (Go.Joins.below_alloc1 _ _))).mono ?_
    rintro e u1 ⟨rfl, hb1⟩
    have B1 : Hid (Below w.heap.size w u1) := below_then (Go.Joins.below_alloc1 _ _) hb1
    have K1 : Hid (u1.heap[w.heap.size]? = some (.cells #[.int .i64 0, .int .i64 0, .int .i64 0, .int .i64 0, .bool false, .bool false, .int .i64 0] 41 (0, 0))) := (hb1.block _ (by simp)).trans (own1 w _)
    have lw1 : w.heap.size < u1.heap.size := (Array.getElem?_eq_some_iff.1 K1.out).1
    clear hb1
    go_upto_region 2 with fail
    have B2 : Hid (Below w.heap.size w (u1.alloc (.cells #[.int .i64 0, .int .i64 0, .int .i64 0, .int .i64 0, .bool false, .bool false, .int .i64 0] 41))) := below_new B1.out _
    have K2 : Hid ((u1.alloc (.cells #[.int .i64 0, .int .i64 0, .int .i64 0, .int .i64 0, .bool false, .bool false, .int .i64 0] 41)).heap[w.heap.size]? = some (.cells #[.int .i64 0, .int .i64 0, .int .i64 0, .int .i64 0, .bool false, .bool false, .int .i64 0] 41 (0, 0))) := ((Go.Joins.below_alloc1 u1 _).block _ lw1).trans K1.out
    have Y2 : Hid ((u1.alloc (.cells #[.int .i64 0, .int .i64 0, .int .i64 0, .int .i64 0, .bool false, .bool false, .int .i64 0] 41)).heap[u1.heap.size]? = some (.cells #[.int .i64 0, .int .i64 0, .int .i64 0, .int .i64 0, .bool false, .bool false, .int .i64 0] 41 (0, 0))) := own1 u1 _
    have lU : u1.heap.size < (u1.alloc (.cells #[.int .i64 0, .int .i64 0, .int .i64 0, .int .i64 0, .bool false, .bool false, .int .i64 0] 41)).heap.size := by simp
    generalize (u1.alloc (.cells #[.int .i64 0, .int .i64 0, .int .i64 0, .int .i64 0, .bool false, .bool false, .int .i64 0] 41)) = U at B2 K2 Y2 lU ⊢
    have lyb : w.heap.size < u1.heap.size := lw1
    clear K1 B1 FI
    generalize u1.heap.size = yb at Y2 lU lyb lw1 ⊢
    have y0 : U.cell? ⟨yb, 0, none⟩ = some (.int .i64 0) := cells9 Y2.out 0 _ rfl
    have y1 : U.cell? ⟨yb, 1, none⟩ = some (.int .i64 0) := cells9 Y2.out 1 _ rfl
    have y2 : U.cell? ⟨yb, 2, none⟩ = some (.int .i64 0) := cells9 Y2.out 2 _ rfl
    have y3 : U.cell? ⟨yb, 3, none⟩ = some (.int .i64 0) := cells9 Y2.out 3 _ rfl
    have y4 : U.cell? ⟨yb, 4, none⟩ = some (.bool false) := cells9 Y2.out 4 _ rfl
    have y5 : U.cell? ⟨yb, 5, none⟩ = some (.bool false) := cells9 Y2.out 5 _ rfl
    have y6 : U.cell? ⟨yb, 6, none⟩ = some (.int .i64 0) := cells9 Y2.out 6 _ rfl
    have n0 : U.cell? ⟨w.heap.size, 0, none⟩ = some (.int .i64 0) := cells9 K2.out 0 _ rfl
    have s0 : U.frozen? ⟨w.heap.size, 0, none⟩ = false := Go.Joins.unfrozen_of_block K2.out 0
    have n1 : U.cell? ⟨w.heap.size, 1, none⟩ = some (.int .i64 0) := cells9 K2.out 1 _ rfl
    have s1 : U.frozen? ⟨w.heap.size, 1, none⟩ = false := Go.Joins.unfrozen_of_block K2.out 1
    have n2 : U.cell? ⟨w.heap.size, 2, none⟩ = some (.int .i64 0) := cells9 K2.out 2 _ rfl
    have s2 : U.frozen? ⟨w.heap.size, 2, none⟩ = false := Go.Joins.unfrozen_of_block K2.out 2
    have n3 : U.cell? ⟨w.heap.size, 3, none⟩ = some (.int .i64 0) := cells9 K2.out 3 _ rfl
    have s3 : U.frozen? ⟨w.heap.size, 3, none⟩ = false := Go.Joins.unfrozen_of_block K2.out 3
    have n4 : U.cell? ⟨w.heap.size, 4, none⟩ = some (.bool false) := cells9 K2.out 4 _ rfl
    have s4 : U.frozen? ⟨w.heap.size, 4, none⟩ = false := Go.Joins.unfrozen_of_block K2.out 4
    have n5 : U.cell? ⟨w.heap.size, 5, none⟩ = some (.bool false) := cells9 K2.out 5 _ rfl
    have s5 : U.frozen? ⟨w.heap.size, 5, none⟩ = false := Go.Joins.unfrozen_of_block K2.out 5
    have n6 : U.cell? ⟨w.heap.size, 6, none⟩ = some (.int .i64 0) := cells9 K2.out 6 _ rfl
    have s6 : U.frozen? ⟨w.heap.size, 6, none⟩ = false := Go.Joins.unfrozen_of_block K2.out 6
    go_wp2_with fail
    refine bodyPost_ret (by simp [results, Try.results25, go_sem, n0, n1, n2, n3, n4, n5, n6]; try rfl) rfl ?_
    exact ⟨⟨q, c, rfl, HI.out.below (below7 B2.out (Nat.le_refl _))⟩, below7 B2.out (Nat.le_refl _)⟩
  replace z : (getG T i).is = true := by simpa using z
  rw [findV_is z, z] at FI
  by_cases c1 : (getG T i).fr = o
  · obtain ⟨e1, e2, e3⟩ := rev0 z c1
    rw [e1, e2, e3, if_pos rfl]
    clear e1 e2 e3
    obtain ⟨k, rfl, hk, hg⟩ := is_in z
    rw [Int.toNat_natCast]
    have RP := fun W h => rwithout_row T base q c k W h
    rw [hg] at FI c1 ⊢
    clear z hg
    generalize hR : rowG (putT T k Gr.zero) 256 = R2 at RP ⊢
    clear hR
    obtain ⟨l, hl⟩ : ∃ l, T k = l := ⟨_, rfl⟩
    rw [hl] at FI c1 ⊢
    skip
    clear hl
    obtain ⟨gf, gp, gd, gw, gt, ga⟩ := l
    simp only [tellG, Gr.leave] at c1  FI  ⊢
    skip
    have cb : (gf == o) = true := by simp [c1]
    have cn : (gf != o) = false := by simp [c1]
    clear c1
    obtain ⟨n0, hn0⟩ : ∃ n0, (rowG T 256).length = n0 := ⟨_, rfl⟩
    rw [hn0] at FI RP ⊢
    clear hn0
    have FI : Hid _ := FI
    have RP : Hid _ := RP
    go_enter Try.func25, Try.ntmps25
    go_wp2_with fail
    refine (FI.out _ (HI.out.below (Go.Joins.below_alloc1 _ _))).mono ?_
    rintro e u1 ⟨rfl, hb1⟩
    have B1 : Hid (Below w.heap.size w u1) := below_then (Go.Joins.below_alloc1 _ _) hb1
    have K1 : Hid (u1.heap[w.heap.size]? = some (.cells #[.int .i64 0, .int .i64 0, .int .i64 0, .int .i64 0, .bool false, .bool false, .int .i64 0] 41 (0, 0))) := (hb1.block _ (by simp)).trans (own1 w _)
    have lw1 : w.heap.size < u1.heap.size := (Array.getElem?_eq_some_iff.1 K1.out).1
    clear hb1
    go_upto_region 2 with fail
    have B2 : Hid (Below w.heap.size w (u1.alloc (.cells #[.int .i64 k, .int .i64 gf, .int .i64 gp, .int .i64 gd, .bool gw, .bool gt, .int .i64 ga] 41))) := below_new B1.out _
    have K2 : Hid ((u1.alloc (.cells #[.int .i64 k, .int .i64 gf, .int .i64 gp, .int .i64 gd, .bool gw, .bool gt, .int .i64 ga] 41)).heap[w.heap.size]? = some (.cells #[.int .i64 0, .int .i64 0, .int .i64 0, .int .i64 0, .bool false, .bool false, .int .i64 0] 41 (0, 0))) := ((Go.Joins.below_alloc1 u1 _).block _ lw1).trans K1.out
    have Y2 : Hid ((u1.alloc (.cells #[.int .i64 k, .int .i64 gf, .int .i64 gp, .int .i64 gd, .bool gw, .bool gt, .int .i64 ga] 41)).heap[u1.heap.size]? = some (.cells #[.int .i64 k, .int .i64 gf, .int .i64 gp, .int .i64 gd, .bool gw, .bool gt, .int .i64 ga] 41 (0, 0))) := own1 u1 _
    have lU : u1.heap.size < (u1.alloc (.cells #[.int .i64 k, .int .i64 gf, .int .i64 gp, .int .i64 gd, .bool gw, .bool gt, .int .i64 ga] 41)).heap.size := by simp
    generalize (u1.alloc (.cells #[.int .i64 k, .int .i64 gf, .int .i64 gp, .int .i64 gd, .bool gw, .bool gt, .int .i64 ga] 41)) = U at B2 K2 Y2 lU ⊢
    have lyb : w.heap.size < u1.heap.size := lw1
    clear K1 B1 FI
    generalize u1.heap.size = yb at Y2 lU lyb lw1 ⊢
    have y0 : U.cell? ⟨yb, 0, none⟩ = some (.int .i64 k) := cells9 Y2.out 0 _ rfl
    have y1 : U.cell? ⟨yb, 1, none⟩ = some (.int .i64 gf) := cells9 Y2.out 1 _ rfl
    have y2 : U.cell? ⟨yb, 2, none⟩ = some (.int .i64 gp) := cells9 Y2.out 2 _ rfl
    have y3 : U.cell? ⟨yb, 3, none⟩ = some (.int .i64 gd) := cells9 Y2.out 3 _ rfl
    have y4 : U.cell? ⟨yb, 4, none⟩ = some (.bool gw) := cells9 Y2.out 4 _ rfl
    have y5 : U.cell? ⟨yb, 5, none⟩ = some (.bool gt) := cells9 Y2.out 5 _ rfl
    have y6 : U.cell? ⟨yb, 6, none⟩ = some (.int .i64 ga) := cells9 Y2.out 6 _ rfl
    have BX : Hid (Below w.heap.size w U.drew) := below_drew B2.out
    have HS : Hid (w.heap.size < U.drew.heap.size) := by show w.heap.size < U.heap.size; omega
    go_wp2_with fail
    go_region_with (refine (RP.out _ (HI.out.below BX.out)).mono ?_; rintro e u3 ⟨⟨p', c', rfl, hI'⟩, hb3⟩; have K3 : Hid (u3.heap[w.heap.size]? = some (.cells #[.int .i64 0, .int .i64 0, .int .i64 0, .int .i64 0, .bool false, .bool false, .int .i64 0] 41 (0, 0))) := ((hb3.block _ (by show _ < U.heap.size; omega)).trans K2.out); have Y3 : Hid (u3.heap[yb]? = some (.cells #[.int .i64 k, .int .i64 gf, .int .i64 gp, .int .i64 gd, .bool gw, .bool gt, .int .i64 ga] 41 (0, 0))) := ((hb3.block _ (by show _ < U.heap.size; omega)).trans Y2.out); have B3 : Hid (Below w.heap.size w u3) := (below_then BX.out hb3); have I3 : Hid (IsRq u3 U.drew.heap.size p' R2) := hI'; have l3 : yb < u3.heap.size := (Array.getElem?_eq_some_iff.1 Y3.out).1; clear hb3 hI'; have t0 : u3.cell? ⟨yb, 0, none⟩ = some (.int .i64 k) := (cells9 Y3.out 0 _ rfl); have t1 : u3.cell? ⟨yb, 1, none⟩ = some (.int .i64 gf) := (cells9 Y3.out 1 _ rfl); have t2 : u3.cell? ⟨yb, 2, none⟩ = some (.int .i64 gp) := (cells9 Y3.out 2 _ rfl); have t3 : u3.cell? ⟨yb, 3, none⟩ = some (.int .i64 gd) := (cells9 Y3.out 3 _ rfl); have t4 : u3.cell? ⟨yb, 4, none⟩ = some (.bool gw) := (cells9 Y3.out 4 _ rfl); have t5 : u3.cell? ⟨yb, 5, none⟩ = some (.bool gt) := (cells9 Y3.out 5 _ rfl); have t6 : u3.cell? ⟨yb, 6, none⟩ = some (.int .i64 ga) := (cells9 Y3.out 6 _ rfl); have n0 : u3.cell? ⟨w.heap.size, 0, none⟩ = some (.int .i64 0) := (cells9 K3.out 0 _ rfl); have s0 : u3.frozen? ⟨w.heap.size, 0, none⟩ = false := (Go.Joins.unfrozen_of_block K3.out 0); have n1 : u3.cell? ⟨w.heap.size, 1, none⟩ = some (.int .i64 0) := (cells9 K3.out 1 _ rfl); have s1 : u3.frozen? ⟨w.heap.size, 1, none⟩ = false := (Go.Joins.unfrozen_of_block K3.out 1); have n2 : u3.cell? ⟨w.heap.size, 2, none⟩ = some (.int .i64 0) := (cells9 K3.out 2 _ rfl); have s2 : u3.frozen? ⟨w.heap.size, 2, none⟩ = false := (Go.Joins.unfrozen_of_block K3.out 2); have n3 : u3.cell? ⟨w.heap.size, 3, none⟩ = some (.int .i64 0) := (cells9 K3.out 3 _ rfl); have s3 : u3.frozen? ⟨w.heap.size, 3, none⟩ = false := (Go.Joins.unfrozen_of_block K3.out 3); have n4 : u3.cell? ⟨w.heap.size, 4, none⟩ = some (.bool false) := (cells9 K3.out 4 _ rfl); have s4 : u3.frozen? ⟨w.heap.size, 4, none⟩ = false := (Go.Joins.unfrozen_of_block K3.out 4); have n5 : u3.cell? ⟨w.heap.size, 5, none⟩ = some (.bool false) := (cells9 K3.out 5 _ rfl); have s5 : u3.frozen? ⟨w.heap.size, 5, none⟩ = false := (Go.Joins.unfrozen_of_block K3.out 5); have n6 : u3.cell? ⟨w.heap.size, 6, none⟩ = some (.int .i64 0) := (cells9 K3.out 6 _ rfl); have s6 : u3.frozen? ⟨w.heap.size, 6, none⟩ = false := (Go.Joins.unfrozen_of_block K3.out 6))
    all_goals go_wp2_with fail
    all_goals refine bodyPost_ret (by simp [results, Try.results25, go_sem, n0, n1, n2, n3, n4, n5, n6]; try rfl) rfl ?_
    all_goals exact ⟨⟨_, _, rfl, (I3.out.grown (grown7R _ _ _ _ _ _ _ _ _) HS.out).weak (Nat.le_trans hbw BX.out.size)⟩, below7 B3.out (Nat.le_refl _)⟩
  · obtain ⟨e1, e2, e3⟩ := rev5 (o := o) (Or.inr c1)
    rw [e1, e3, if_neg (by decide)]
    clear e1 e2 e3 z
    generalize getG T i = l at FI c1
    obtain ⟨gf, gp, gd, gw, gt, ga⟩ := l
    simp only [tellG] at c1 FI
    simp only [Rq.zero]
    have cb : (gf == o) = false := by simp [c1]
    have cn : (gf != o) = true := by simp [c1]
    obtain ⟨n0, hn0⟩ : ∃ n0, (rowG T 256).length = n0 := ⟨_, rfl⟩
    rw [hn0] at FI  ⊢
    clear hn0
    have FI : Hid _ := FI
    go_enter Try.func25, Try.ntmps25
    go_wp2_with fail
    refine (FI.out _ (HI.out.below (Go.Joins.below_alloc1 _ _))).mono ?_
    rintro e u1 ⟨rfl, hb1⟩
    have B1 : Hid (Below w.heap.size w u1) := below_then (Go.Joins.below_alloc1 _ _) hb1
    have K1 : Hid (u1.heap[w.heap.size]? = some (.cells #[.int .i64 0, .int .i64 0, .int .i64 0, .int .i64 0, .bool false, .bool false, .int .i64 0] 41 (0, 0))) := (hb1.block _ (by simp)).trans (own1 w _)
    have lw1 : w.heap.size < u1.heap.size := (Array.getElem?_eq_some_iff.1 K1.out).1
    clear hb1
    go_upto_region 2 with fail
    have B2 : Hid (Below w.heap.size w (u1.alloc (.cells #[.int .i64 i, .int .i64 gf, .int .i64 gp, .int .i64 gd, .bool gw, .bool gt, .int .i64 ga] 41))) := below_new B1.out _
    have K2 : Hid ((u1.alloc (.cells #[.int .i64 i, .int .i64 gf, .int .i64 gp, .int .i64 gd, .bool gw, .bool gt, .int .i64 ga] 41)).heap[w.heap.size]? = some (.cells #[.int .i64 0, .int .i64 0, .int .i64 0, .int .i64 0, .bool false, .bool false, .int .i64 0] 41 (0, 0))) := ((Go.Joins.below_alloc1 u1 _).block _ lw1).trans K1.out
    have Y2 : Hid ((u1.alloc (.cells #[.int .i64 i, .int .i64 gf, .int .i64 gp, .int .i64 gd, .bool gw, .bool gt, .int .i64 ga] 41)).heap[u1.heap.size]? = some (.cells #[.int .i64 i, .int .i64 gf, .int .i64 gp, .int .i64 gd, .bool gw, .bool gt, .int .i64 ga] 41 (0, 0))) := own1 u1 _
    have lU : u1.heap.size < (u1.alloc (.cells #[.int .i64 i, .int .i64 gf, .int .i64 gp, .int .i64 gd, .bool gw, .bool gt, .int .i64 ga] 41)).heap.size := by simp
    generalize (u1.alloc (.cells #[.int .i64 i, .int .i64 gf, .int .i64 gp, .int .i64 gd, .bool gw, .bool gt, .int .i64 ga] 41)) = U at B2 K2 Y2 lU ⊢
    have lyb : w.heap.size < u1.heap.size := lw1
    clear K1 B1 FI
    generalize u1.heap.size = yb at Y2 lU lyb lw1 ⊢
    have y0 : U.cell? ⟨yb, 0, none⟩ = some (.int .i64 i) := cells9 Y2.out 0 _ rfl
    have y1 : U.cell? ⟨yb, 1, none⟩ = some (.int .i64 gf) := cells9 Y2.out 1 _ rfl
    have y2 : U.cell? ⟨yb, 2, none⟩ = some (.int .i64 gp) := cells9 Y2.out 2 _ rfl
    have y3 : U.cell? ⟨yb, 3, none⟩ = some (.int .i64 gd) := cells9 Y2.out 3 _ rfl
    have y4 : U.cell? ⟨yb, 4, none⟩ = some (.bool gw) := cells9 Y2.out 4 _ rfl
    have y5 : U.cell? ⟨yb, 5, none⟩ = some (.bool gt) := cells9 Y2.out 5 _ rfl
    have y6 : U.cell? ⟨yb, 6, none⟩ = some (.int .i64 ga) := cells9 Y2.out 6 _ rfl
    have n0 : U.cell? ⟨w.heap.size, 0, none⟩ = some (.int .i64 0) := cells9 K2.out 0 _ rfl
    have s0 : U.frozen? ⟨w.heap.size, 0, none⟩ = false := Go.Joins.unfrozen_of_block K2.out 0
    have n1 : U.cell? ⟨w.heap.size, 1, none⟩ = some (.int .i64 0) := cells9 K2.out 1 _ rfl
    have s1 : U.frozen? ⟨w.heap.size, 1, none⟩ = false := Go.Joins.unfrozen_of_block K2.out 1
    have n2 : U.cell? ⟨w.heap.size, 2, none⟩ = some (.int .i64 0) := cells9 K2.out 2 _ rfl
    have s2 : U.frozen? ⟨w.heap.size, 2, none⟩ = false := Go.Joins.unfrozen_of_block K2.out 2
    have n3 : U.cell? ⟨w.heap.size, 3, none⟩ = some (.int .i64 0) := cells9 K2.out 3 _ rfl
    have s3 : U.frozen? ⟨w.heap.size, 3, none⟩ = false := Go.Joins.unfrozen_of_block K2.out 3
    have n4 : U.cell? ⟨w.heap.size, 4, none⟩ = some (.bool false) := cells9 K2.out 4 _ rfl
    have s4 : U.frozen? ⟨w.heap.size, 4, none⟩ = false := Go.Joins.unfrozen_of_block K2.out 4
    have n5 : U.cell? ⟨w.heap.size, 5, none⟩ = some (.bool false) := cells9 K2.out 5 _ rfl
    have s5 : U.frozen? ⟨w.heap.size, 5, none⟩ = false := Go.Joins.unfrozen_of_block K2.out 5
    have n6 : U.cell? ⟨w.heap.size, 6, none⟩ = some (.int .i64 0) := cells9 K2.out 6 _ rfl
    have s6 : U.frozen? ⟨w.heap.size, 6, none⟩ = false := Go.Joins.unfrozen_of_block K2.out 6
    go_wp2_with fail
    refine bodyPost_ret (by simp [results, Try.results25, go_sem, n0, n1, n2, n3, n4, n5, n6]; try rfl) rfl ?_
    exact ⟨⟨q, c, rfl, HI.out.below (below7 B2.out (Nat.le_refl _))⟩, below7 B2.out (Nat.le_refl _)⟩
end Go.Proofs.Ytenfdcjnfgjilaa
