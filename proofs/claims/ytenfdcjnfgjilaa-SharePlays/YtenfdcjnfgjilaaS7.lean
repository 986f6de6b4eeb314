/- Grants: the document on no grants, once more. -/
import Derived.Test.YtenfdcjnfgjilaaS6
namespace Go.Proofs.Ytenfdcjnfgjilaa
open Go.ChangeShapes Go.WideShapes Go.ChangeAt Go.RowKit Go.Maps
set_option linter.unusedSimpArgs false
set_option linter.unusedVariables false
set_option maxRecDepth 8000
set_option maxRecDepth 8000
set_option maxRecDepth 8000

theorem below7 {w W : World} {n : Nat} {v0 v1 v2 v3 v4 v5 v6 : Value} (h : Below w.heap.size w W) (hn : w.heap.size ≤ n) : Below w.heap.size w (((((((W.setCell ⟨n, 0, none⟩ v0).setCell ⟨n, 1, none⟩ v1).setCell ⟨n, 2, none⟩ v2).setCell ⟨n, 3, none⟩ v3).setCell ⟨n, 4, none⟩ v4).setCell ⟨n, 5, none⟩ v5).setCell ⟨n, 6, none⟩ v6) :=
  ((((((h.setCell (p := ⟨n, 0, none⟩) hn _).setCell (p := ⟨n, 1, none⟩) hn _).setCell (p := ⟨n, 2, none⟩) hn _).setCell (p := ⟨n, 3, none⟩) hn _).setCell (p := ⟨n, 4, none⟩) hn _).setCell (p := ⟨n, 5, none⟩) hn _).setCell (p := ⟨n, 6, none⟩) hn _
set_option maxHeartbeats 1000000 in
theorem rleave_nil (i o : Int) (w : World) : Calls Try.prog 24 #[.slice none 0 0, .int .i64 i, .int .i64 o] w fun e w' => e = .returned (.tuple #[.slice none 0 0, .agg #[.int .i64 0, .int .i64 0, .int .i64 0, .int .i64 0, .bool false, .bool false, .int .i64 0], .int .i64 5]) ∧ Below w.heap.size w w' := by
  have F : Hid (∀ w : World, Calls Try.prog 16 #[.slice none 0 0, .int .i64 i] w fun e w' => e = .returned (.tuple #[.agg #[.int .i64 0, .int .i64 0, .int .i64 0, .int .i64 0, .bool false, .bool false, .int .i64 0], .bool false]) ∧ Below w.heap.size w w') := fun w => rfind_nil i w
  go_enter Try.func24, Try.ntmps24
  go_wp2_with fail
  refine (F.out _).mono ?_
  rintro e u1 ⟨rfl, hb1⟩
  have B1 : Hid (Below w.heap.size w u1) := below_then (Go.Joins.below_alloc1 _ _) hb1
  have TB : Hid (u1.there w.heap.size 0 7) := there_below (there_block (own1 w _)) (by simp) hb1
  have RB : Hid (u1.rangeAt w.heap.size 0 [.int .i64 0, .int .i64 0, .int .i64 0, .int .i64 0, .bool false, .bool false, .int .i64 0]) := range_below (range_block w _ _) (by simp) hb1
  have lsz : w.heap.size < u1.heap.size := Nat.lt_of_lt_of_le (by simp) hb1.size
  clear hb1
  go_upto_region 2 with fail
  have TC : Hid ((u1.alloc (.cells #[.int .i64 0, .int .i64 0, .int .i64 0, .int .i64 0, .bool false, .bool false, .int .i64 0] 41)).there w.heap.size 0 7) := there_below TB.out lsz (Go.Joins.below_alloc1 _ _)
  have RD : Hid ((u1.alloc (.cells #[.int .i64 0, .int .i64 0, .int .i64 0, .int .i64 0, .bool false, .bool false, .int .i64 0] 41)).rangeAt w.heap.size 0 [.int .i64 0, .int .i64 0, .int .i64 0, .int .i64 0, .bool false, .bool false, .int .i64 0]) := range_below RB.out lsz (Go.Joins.below_alloc1 _ _)
  have B2 : Hid (Below w.heap.size w (u1.alloc (.cells #[.int .i64 0, .int .i64 0, .int .i64 0, .int .i64 0, .bool false, .bool false, .int .i64 0] 41))) := below_new B1.out _
  clear TB RB
  generalize (u1.alloc (.cells #[.int .i64 0, .int .i64 0, .int .i64 0, .int .i64 0, .bool false, .bool false, .int .i64 0] 41)) = U at TC RD B2 ⊢
  have n0 := range_at RD.out 0 rfl
  have z0 : U.frozen? ⟨w.heap.size, 0, none⟩ = false := (TC.out 0 (by omega)).2
  have n1 := range_at RD.out 1 rfl
  have z1 : U.frozen? ⟨w.heap.size, 1, none⟩ = false := (TC.out 1 (by omega)).2
  have n2 := range_at RD.out 2 rfl
  have z2 : U.frozen? ⟨w.heap.size, 2, none⟩ = false := (TC.out 2 (by omega)).2
  have n3 := range_at RD.out 3 rfl
  have z3 : U.frozen? ⟨w.heap.size, 3, none⟩ = false := (TC.out 3 (by omega)).2
  have n4 := range_at RD.out 4 rfl
  have z4 : U.frozen? ⟨w.heap.size, 4, none⟩ = false := (TC.out 4 (by omega)).2
  have n5 := range_at RD.out 5 rfl
  have z5 : U.frozen? ⟨w.heap.size, 5, none⟩ = false := (TC.out 5 (by omega)).2
  have n6 := range_at RD.out 6 rfl
  have z6 : U.frozen? ⟨w.heap.size, 6, none⟩ = false := (TC.out 6 (by omega)).2
  go_wp2_with fail
  refine bodyPost_ret (by simp [results, Try.results24, go_sem, n0, n1, n2, n3, n4, n5, n6]; try rfl) rfl ?_
  exact ⟨rfl, below7 B2.out (Nat.le_refl _)⟩
set_option maxHeartbeats 1000000 in
theorem rrevoke_nil (i o : Int) (w : World) : Calls Try.prog 25 #[.slice none 0 0, .int .i64 i, .int .i64 o] w fun e w' => e = .returned (.tuple #[.slice none 0 0, .agg #[.int .i64 0, .int .i64 0, .int .i64 0, .int .i64 0, .bool false, .bool false, .int .i64 0], .int .i64 5]) ∧ Below w.heap.size w w' := by
  have F : Hid (∀ w : World, Calls Try.prog 16 #[.slice none 0 0, .int .i64 i] w fun e w' => e = .returned (.tuple #[.agg #[.int .i64 0, .int .i64 0, .int .i64 0, .int .i64 0, .bool false, .bool false, .int .i64 0], .bool false]) ∧ Below w.heap.size w w') := fun w => rfind_nil i w
  go_enter Try.func25, Try.ntmps25
  go_wp2_with fail
  refine (F.out _).mono ?_
  rintro e u1 ⟨rfl, hb1⟩
  have B1 : Hid (Below w.heap.size w u1) := below_then (Go.Joins.below_alloc1 _ _) hb1
  have TB : Hid (u1.there w.heap.size 0 7) := there_below (there_block (own1 w _)) (by simp) hb1
  have RB : Hid (u1.rangeAt w.heap.size 0 [.int .i64 0, .int .i64 0, .int .i64 0, .int .i64 0, .bool false, .bool false, .int .i64 0]) := range_below (range_block w _ _) (by simp) hb1
  have lsz : w.heap.size < u1.heap.size := Nat.lt_of_lt_of_le (by simp) hb1.size
  clear hb1
  go_upto_region 2 with fail
  have TC : Hid ((u1.alloc (.cells #[.int .i64 0, .int .i64 0, .int .i64 0, .int .i64 0, .bool false, .bool false, .int .i64 0] 41)).there w.heap.size 0 7) := there_below TB.out lsz (Go.Joins.below_alloc1 _ _)
  have RD : Hid ((u1.alloc (.cells #[.int .i64 0, .int .i64 0, .int .i64 0, .int .i64 0, .bool false, .bool false, .int .i64 0] 41)).rangeAt w.heap.size 0 [.int .i64 0, .int .i64 0, .int .i64 0, .int .i64 0, .bool false, .bool false, .int .i64 0]) := range_below RB.out lsz (Go.Joins.below_alloc1 _ _)
  have B2 : Hid (Below w.heap.size w (u1.alloc (.cells #[.int .i64 0, .int .i64 0, .int .i64 0, .int .i64 0, .bool false, .bool false, .int .i64 0] 41))) := below_new B1.out _
  clear TB RB
  generalize (u1.alloc (.cells #[.int .i64 0, .int .i64 0, .int .i64 0, .int .i64 0, .bool false, .bool false, .int .i64 0] 41)) = U at TC RD B2 ⊢
  have n0 := range_at RD.out 0 rfl
  have z0 : U.frozen? ⟨w.heap.size, 0, none⟩ = false := (TC.out 0 (by omega)).2
  have n1 := range_at RD.out 1 rfl
  have z1 : U.frozen? ⟨w.heap.size, 1, none⟩ = false := (TC.out 1 (by omega)).2
  have n2 := range_at RD.out 2 rfl
  have z2 : U.frozen? ⟨w.heap.size, 2, none⟩ = false := (TC.out 2 (by omega)).2
  have n3 := range_at RD.out 3 rfl
  have z3 : U.frozen? ⟨w.heap.size, 3, none⟩ = false := (TC.out 3 (by omega)).2
  have n4 := range_at RD.out 4 rfl
  have z4 : U.frozen? ⟨w.heap.size, 4, none⟩ = false := (TC.out 4 (by omega)).2
  have n5 := range_at RD.out 5 rfl
  have z5 : U.frozen? ⟨w.heap.size, 5, none⟩ = false := (TC.out 5 (by omega)).2
  have n6 := range_at RD.out 6 rfl
  have z6 : U.frozen? ⟨w.heap.size, 6, none⟩ = false := (TC.out 6 (by omega)).2
  go_wp2_with fail
  refine bodyPost_ret (by simp [results, Try.results25, go_sem, n0, n1, n2, n3, n4, n5, n6]; try rfl) rfl ?_
  exact ⟨rfl, below7 B2.out (Nat.le_refl _)⟩
set_option maxHeartbeats 1000000 in
theorem rof_nil (i : Int) (w : World) : Calls Try.prog 11 #[.slice none 0 0, .int .i64 i] w fun e w' => (∃ q c, e = .returned (.slice q 0 c)) ∧ Below w.heap.size w w' := by
  go_enter Try.func11, Try.ntmps11
  go_wp2_with fail
  refine wp_loop_rounds 1 ?_
  rw [rounds_succ]
  go_wp2_with fail
  go_ret
  exact ⟨⟨_, _, rfl⟩, by first | exact Below.refl _ _ | exact Go.Joins.below_alloc1 _ _⟩
end Go.Proofs.Ytenfdcjnfgjilaa
