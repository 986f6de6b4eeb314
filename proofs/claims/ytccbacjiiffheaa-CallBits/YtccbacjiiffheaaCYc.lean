/- A bit of a call's words is turned. -/
import Derived.Test.YtccbacjiiffheaaCN
namespace Go.Proofs.Ytccbacjiiffheaa
open Go.ChangeShapes Go.WideShapes Go.ChangeAt Go.RowKit Go.Maps
set_option linter.unusedSimpArgs false
set_option linter.unusedVariables false

set_option maxRecDepth 8000 in
set_option maxHeartbeats 8000000 in
theorem bitY4 (x0 x1 x2 x3 x4 x5 : Int) (c0 c1 c2 c6 c7 c8 c9 c10 c11 c12 : Int) (c3 c4 c5 : Bool) (d0 d1 d2 d6 d7 d8 d9 d10 d11 d12 : Int) (d3 d4 d5 : Bool) (n : Nat) (s y : Int) (n63 : n ≤ 63) (s0 : 1 ≤ s) (s1 : s < 18446744073709551616) (hsn : (2 : Int) ^ n = s) (hy : bits .xor .u64 x4 s = y) (g0' : 0 ≤ y) (g1' : y < 18446744073709551616) (w : World) (R1 : Hid (∀ W : World, Calls Try.prog 9 #[.agg #[.int .u64 x0, .int .u64 x1, .int .u64 x2, .int .u64 x3, .int .u64 x4, .int .u64 x5]] W fun e w' => e = .returned (.tuple #[.agg #[.int .i64 c0, .int .i64 c1, .int .i64 c2, .bool c3, .bool c4, .bool c5, .int .u64 c6, .int .i64 c7, .int .u64 c8, .int .i64 c9, .int .i64 c10, .int .i64 c11, .int .i64 c12], .int .i64 0]) ∧ Below W.heap.size W w'))
    (R2 : Hid (∀ W : World, Calls Try.prog 9 #[.agg #[.int .u64 x0, .int .u64 x1, .int .u64 x2, .int .u64 x3, .int .u64 y, .int .u64 x5]] W fun e w' => e = .returned (.tuple #[.agg #[.int .i64 d0, .int .i64 d1, .int .i64 d2, .bool d3, .bool d4, .bool d5, .int .u64 d6, .int .i64 d7, .int .u64 d8, .int .i64 d9, .int .i64 d10, .int .i64 d11, .int .i64 d12], .int .i64 0]) ∧ Below W.heap.size W w')) (NE : ∀ W : World, (binOp .neq 30 (.agg #[.int .i64 d0, .int .i64 d1, .int .i64 d2, .bool d3, .bool d4, .bool d5, .int .u64 d6, .int .i64 d7, .int .u64 d8, .int .i64 d9, .int .i64 d10, .int .i64 d11, .int .i64 d12]) (.agg #[.int .i64 c0, .int .i64 c1, .int .i64 c2, .bool c3, .bool c4, .bool c5, .int .u64 c6, .int .i64 c7, .int .u64 c8, .int .i64 c9, .int .i64 c10, .int .i64 c11, .int .i64 c12])).run Try.prog W = .ok (.bool true) W) : Calls Try.prog 6 #[.agg #[.int .u64 x0, .int .u64 x1, .int .u64 x2, .int .u64 x3, .int .u64 x4, .int .u64 x5], .int .i64 4, .int .i64 (n : Int)] w fun e w' => e = .returned (.bool true) ∧ Below w.heap.size w w' := by
  have AWH : Hid (∀ W : World, Calls Try.prog 11 #[] W fun e w' => e = .returned (.bool true) ∧ Below W.heap.size W w') := fun W => awake_any W
  have Z0 : Hid (Blk (w.alloc (.cells #[.int .u64 x0, .int .u64 x1, .int .u64 x2, .int .u64 x3, .int .u64 x4, .int .u64 x5] 24)) w.heap.size [.int .u64 x0, .int .u64 x1, .int .u64 x2, .int .u64 x3, .int .u64 x4, .int .u64 x5] 24) := Blk.made w _ _
  have dq3 : decide ((n : Int) < 0) = false := by simp
  have dq4 : decide ((63 : Int) < (n : Int)) = false := by simp; omega
  go_enter Try.func6, Try.ntmps6
  go_wp2_with fail
  refine (R1.out _).mono ?_
  rintro e u1 ⟨rfl, hb⟩
  have B1 : Hid (Below w.heap.size w u1) := below_then (Go.Joins.below_alloc1 _ _) hb
  have Z1 : Hid (Blk u1 w.heap.size [.int .u64 x0, .int .u64 x1, .int .u64 x2, .int .u64 x3, .int .u64 x4, .int .u64 x5] 24) := Z0.out.below hb
  clear hb
  have yc0 : u1.cell? ⟨w.heap.size, 0, none⟩ = some (.int .u64 x0) := Z1.out.cell 0
  have yf0 : u1.frozen? ⟨w.heap.size, 0, none⟩ = false := Z1.out.free 0
  have yc1 : u1.cell? ⟨w.heap.size, 1, none⟩ = some (.int .u64 x1) := Z1.out.cell 1
  have yf1 : u1.frozen? ⟨w.heap.size, 1, none⟩ = false := Z1.out.free 1
  have yc2 : u1.cell? ⟨w.heap.size, 2, none⟩ = some (.int .u64 x2) := Z1.out.cell 2
  have yf2 : u1.frozen? ⟨w.heap.size, 2, none⟩ = false := Z1.out.free 2
  have yc3 : u1.cell? ⟨w.heap.size, 3, none⟩ = some (.int .u64 x3) := Z1.out.cell 3
  have yf3 : u1.frozen? ⟨w.heap.size, 3, none⟩ = false := Z1.out.free 3
  have yc4 : u1.cell? ⟨w.heap.size, 4, none⟩ = some (.int .u64 x4) := Z1.out.cell 4
  have yf4 : u1.frozen? ⟨w.heap.size, 4, none⟩ = false := Z1.out.free 4
  have yc5 : u1.cell? ⟨w.heap.size, 5, none⟩ = some (.int .u64 x5) := Z1.out.cell 5
  have yf5 : u1.frozen? ⟨w.heap.size, 5, none⟩ = false := Z1.out.free 5
  have lt1 : w.heap.size < u1.heap.size := blk_lt Z1.out
  go_wp2_with fail
  have B2 : Hid (Below w.heap.size w ((u1.setCell ⟨w.heap.size, 4, none⟩ (.int .u64 y)).alloc (.cells #[.int .i64 c0, .int .i64 c1, .int .i64 c2, .bool c3, .bool c4, .bool c5, .int .u64 c6, .int .i64 c7, .int .u64 c8, .int .i64 c9, .int .i64 c10, .int .i64 c11, .int .i64 c12] 30)).drew) := below_drew (below_new (B1.out.setCell (Nat.le_refl _) _) _)
  have K2 : Hid (Blk ((u1.setCell ⟨w.heap.size, 4, none⟩ (.int .u64 y)).alloc (.cells #[.int .i64 c0, .int .i64 c1, .int .i64 c2, .bool c3, .bool c4, .bool c5, .int .u64 c6, .int .i64 c7, .int .u64 c8, .int .i64 c9, .int .i64 c10, .int .i64 c11, .int .i64 c12] 30)).drew u1.heap.size [.int .i64 c0, .int .i64 c1, .int .i64 c2, .bool c3, .bool c4, .bool c5, .int .u64 c6, .int .i64 c7, .int .u64 c8, .int .i64 c9, .int .i64 c10, .int .i64 c11, .int .i64 c12] 30) := by
    have := Blk.made (u1.setCell ⟨w.heap.size, 4, none⟩ (.int .u64 y)) [.int .i64 c0, .int .i64 c1, .int .i64 c2, .bool c3, .bool c4, .bool c5, .int .u64 c6, .int .i64 c7, .int .u64 c8, .int .i64 c9, .int .i64 c10, .int .i64 c11, .int .i64 c12] 30
    rw [show (u1.setCell ⟨w.heap.size, 4, none⟩ (.int .u64 y)).heap.size = u1.heap.size by simp] at this
    exact this
  go_region
  all_goals (go_wp2_with fail)
  all_goals (refine (R2.out _).mono ?_; rintro e u3 ⟨rfl, hb⟩)
  all_goals (have B3 : Hid (Below w.heap.size w u3) := below_then B2.out hb)
  all_goals (have K3 : Hid (Blk u3 u1.heap.size [.int .i64 c0, .int .i64 c1, .int .i64 c2, .bool c3, .bool c4, .bool c5, .int .u64 c6, .int .i64 c7, .int .u64 c8, .int .i64 c9, .int .i64 c10, .int .i64 c11, .int .i64 c12] 30) := K2.out.below hb)
  all_goals (have E3 : Hid (Blk (u3.alloc (.cells #[.int .i64 d0, .int .i64 d1, .int .i64 d2, .bool d3, .bool d4, .bool d5, .int .u64 d6, .int .i64 d7, .int .u64 d8, .int .i64 d9, .int .i64 d10, .int .i64 d11, .int .i64 d12] 30)) u3.heap.size [.int .i64 d0, .int .i64 d1, .int .i64 d2, .bool d3, .bool d4, .bool d5, .int .u64 d6, .int .i64 d7, .int .u64 d8, .int .i64 d9, .int .i64 d10, .int .i64 d11, .int .i64 d12] 30) := Blk.made u3 _ _)
  all_goals (have K4 : Hid (Blk (u3.alloc (.cells #[.int .i64 d0, .int .i64 d1, .int .i64 d2, .bool d3, .bool d4, .bool d5, .int .u64 d6, .int .i64 d7, .int .u64 d8, .int .i64 d9, .int .i64 d10, .int .i64 d11, .int .i64 d12] 30)) u1.heap.size [.int .i64 c0, .int .i64 c1, .int .i64 c2, .bool c3, .bool c4, .bool c5, .int .u64 c6, .int .i64 c7, .int .u64 c8, .int .i64 c9, .int .i64 c10, .int .i64 c11, .int .i64 c12] 30) := K3.out.below (Go.Joins.below_alloc1 _ _))
  all_goals (clear hb)
  all_goals (go_wp2_with fail)
  all_goals (refine (AWH.out _).mono ?_; rintro e u9 ⟨rfl, hb⟩)
  all_goals (have B9 : Hid (Below w.heap.size w u9) := below_then (below_new B3.out _) hb)
  all_goals (have E9 : Hid (Blk u9 u3.heap.size [.int .i64 d0, .int .i64 d1, .int .i64 d2, .bool d3, .bool d4, .bool d5, .int .u64 d6, .int .i64 d7, .int .u64 d8, .int .i64 d9, .int .i64 d10, .int .i64 d11, .int .i64 d12] 30) := E3.out.below hb)
  all_goals (have K9 : Hid (Blk u9 u1.heap.size [.int .i64 c0, .int .i64 c1, .int .i64 c2, .bool c3, .bool c4, .bool c5, .int .u64 c6, .int .i64 c7, .int .u64 c8, .int .i64 c9, .int .i64 c10, .int .i64 c11, .int .i64 c12] 30) := K4.out.below hb)
  all_goals (clear hb)
  all_goals (have dc0 : u9.cell? ⟨u3.heap.size, 0, none⟩ = some (.int .i64 d0) := E9.out.cell 0)
  all_goals (have dc1 : u9.cell? ⟨u3.heap.size, 1, none⟩ = some (.int .i64 d1) := E9.out.cell 1)
  all_goals (have dc2 : u9.cell? ⟨u3.heap.size, 2, none⟩ = some (.int .i64 d2) := E9.out.cell 2)
  all_goals (have dc3 : u9.cell? ⟨u3.heap.size, 3, none⟩ = some (.bool d3) := E9.out.cell 3)
  all_goals (have dc4 : u9.cell? ⟨u3.heap.size, 4, none⟩ = some (.bool d4) := E9.out.cell 4)
  all_goals (have dc5 : u9.cell? ⟨u3.heap.size, 5, none⟩ = some (.bool d5) := E9.out.cell 5)
  all_goals (have dc6 : u9.cell? ⟨u3.heap.size, 6, none⟩ = some (.int .u64 d6) := E9.out.cell 6)
  all_goals (have dc7 : u9.cell? ⟨u3.heap.size, 7, none⟩ = some (.int .i64 d7) := E9.out.cell 7)
  all_goals (have dc8 : u9.cell? ⟨u3.heap.size, 8, none⟩ = some (.int .u64 d8) := E9.out.cell 8)
  all_goals (have dc9 : u9.cell? ⟨u3.heap.size, 9, none⟩ = some (.int .i64 d9) := E9.out.cell 9)
  all_goals (have dc10 : u9.cell? ⟨u3.heap.size, 10, none⟩ = some (.int .i64 d10) := E9.out.cell 10)
  all_goals (have dc11 : u9.cell? ⟨u3.heap.size, 11, none⟩ = some (.int .i64 d11) := E9.out.cell 11)
  all_goals (have dc12 : u9.cell? ⟨u3.heap.size, 12, none⟩ = some (.int .i64 d12) := E9.out.cell 12)
  all_goals (have cc0 : u9.cell? ⟨u1.heap.size, 0, none⟩ = some (.int .i64 c0) := K9.out.cell 0)
  all_goals (have cc1 : u9.cell? ⟨u1.heap.size, 1, none⟩ = some (.int .i64 c1) := K9.out.cell 1)
  all_goals (have cc2 : u9.cell? ⟨u1.heap.size, 2, none⟩ = some (.int .i64 c2) := K9.out.cell 2)
  all_goals (have cc3 : u9.cell? ⟨u1.heap.size, 3, none⟩ = some (.bool c3) := K9.out.cell 3)
  all_goals (have cc4 : u9.cell? ⟨u1.heap.size, 4, none⟩ = some (.bool c4) := K9.out.cell 4)
  all_goals (have cc5 : u9.cell? ⟨u1.heap.size, 5, none⟩ = some (.bool c5) := K9.out.cell 5)
  all_goals (have cc6 : u9.cell? ⟨u1.heap.size, 6, none⟩ = some (.int .u64 c6) := K9.out.cell 6)
  all_goals (have cc7 : u9.cell? ⟨u1.heap.size, 7, none⟩ = some (.int .i64 c7) := K9.out.cell 7)
  all_goals (have cc8 : u9.cell? ⟨u1.heap.size, 8, none⟩ = some (.int .u64 c8) := K9.out.cell 8)
  all_goals (have cc9 : u9.cell? ⟨u1.heap.size, 9, none⟩ = some (.int .i64 c9) := K9.out.cell 9)
  all_goals (have cc10 : u9.cell? ⟨u1.heap.size, 10, none⟩ = some (.int .i64 c10) := K9.out.cell 10)
  all_goals (have cc11 : u9.cell? ⟨u1.heap.size, 11, none⟩ = some (.int .i64 c11) := K9.out.cell 11)
  all_goals (have cc12 : u9.cell? ⟨u1.heap.size, 12, none⟩ = some (.int .i64 c12) := K9.out.cell 12)
  all_goals (have l3 : u3.heap.size < u9.heap.size := blk_lt E9.out)
  all_goals (have l1 : u1.heap.size < u9.heap.size := blk_lt K9.out)
  all_goals (go_wp2_with fail)
  all_goals (go_ret)
  all_goals (exact ⟨rfl, B9.out⟩)
set_option maxRecDepth 8000 in
set_option maxHeartbeats 8000000 in
theorem bitN4 (x0 x1 x2 x3 x4 x5 : Int) (c0 c1 c2 c6 c7 c8 c9 c10 c11 c12 : Int) (c3 c4 c5 : Bool)  (n : Nat) (s y : Int) (n63 : n ≤ 63) (s0 : 1 ≤ s) (s1 : s < 18446744073709551616) (hsn : (2 : Int) ^ n = s) (hy : bits .xor .u64 x4 s = y) (g0' : 0 ≤ y) (g1' : y < 18446744073709551616) (w : World) (R1 : Hid (∀ W : World, Calls Try.prog 9 #[.agg #[.int .u64 x0, .int .u64 x1, .int .u64 x2, .int .u64 x3, .int .u64 x4, .int .u64 x5]] W fun e w' => e = .returned (.tuple #[.agg #[.int .i64 c0, .int .i64 c1, .int .i64 c2, .bool c3, .bool c4, .bool c5, .int .u64 c6, .int .i64 c7, .int .u64 c8, .int .i64 c9, .int .i64 c10, .int .i64 c11, .int .i64 c12], .int .i64 0]) ∧ Below W.heap.size W w'))
    (R2 : Hid (∀ W : World, Calls Try.prog 9 #[.agg #[.int .u64 x0, .int .u64 x1, .int .u64 x2, .int .u64 x3, .int .u64 y, .int .u64 x5]] W fun e w' => e = .returned (.tuple #[.agg #[.int .i64 0, .int .i64 0, .int .i64 0, .bool false, .bool false, .bool false, .int .u64 0, .int .i64 0, .int .u64 0, .int .i64 0, .int .i64 0, .int .i64 0, .int .i64 0], .int .i64 13]) ∧ Below W.heap.size W w'))  : Calls Try.prog 6 #[.agg #[.int .u64 x0, .int .u64 x1, .int .u64 x2, .int .u64 x3, .int .u64 x4, .int .u64 x5], .int .i64 4, .int .i64 (n : Int)] w fun e w' => e = .returned (.bool true) ∧ Below w.heap.size w w' := by
  have AWH : Hid (∀ W : World, Calls Try.prog 11 #[] W fun e w' => e = .returned (.bool true) ∧ Below W.heap.size W w') := fun W => awake_any W
  have Z0 : Hid (Blk (w.alloc (.cells #[.int .u64 x0, .int .u64 x1, .int .u64 x2, .int .u64 x3, .int .u64 x4, .int .u64 x5] 24)) w.heap.size [.int .u64 x0, .int .u64 x1, .int .u64 x2, .int .u64 x3, .int .u64 x4, .int .u64 x5] 24) := Blk.made w _ _
  have dq3 : decide ((n : Int) < 0) = false := by simp
  have dq4 : decide ((63 : Int) < (n : Int)) = false := by simp; omega
  have EQ : ∀ W : World, (binOp .eql 30 (.agg #[.int .i64 0, .int .i64 0, .int .i64 0, .bool false, .bool false, .bool false, .int .u64 0, .int .i64 0, .int .u64 0, .int .i64 0, .int .i64 0, .int .i64 0, .int .i64 0]) (.agg #[.int .i64 0, .int .i64 0, .int .i64 0, .bool false, .bool false, .bool false, .int .u64 0, .int .i64 0, .int .u64 0, .int .i64 0, .int .i64 0, .int .i64 0, .int .i64 0])).run Try.prog W = .ok (.bool true) W := fun W => by kernel_rfl
  go_enter Try.func6, Try.ntmps6
  go_wp2_with fail
  refine (R1.out _).mono ?_
  rintro e u1 ⟨rfl, hb⟩
  have B1 : Hid (Below w.heap.size w u1) := below_then (Go.Joins.below_alloc1 _ _) hb
  have Z1 : Hid (Blk u1 w.heap.size [.int .u64 x0, .int .u64 x1, .int .u64 x2, .int .u64 x3, .int .u64 x4, .int .u64 x5] 24) := Z0.out.below hb
  clear hb
  have yc0 : u1.cell? ⟨w.heap.size, 0, none⟩ = some (.int .u64 x0) := Z1.out.cell 0
  have yf0 : u1.frozen? ⟨w.heap.size, 0, none⟩ = false := Z1.out.free 0
  have yc1 : u1.cell? ⟨w.heap.size, 1, none⟩ = some (.int .u64 x1) := Z1.out.cell 1
  have yf1 : u1.frozen? ⟨w.heap.size, 1, none⟩ = false := Z1.out.free 1
  have yc2 : u1.cell? ⟨w.heap.size, 2, none⟩ = some (.int .u64 x2) := Z1.out.cell 2
  have yf2 : u1.frozen? ⟨w.heap.size, 2, none⟩ = false := Z1.out.free 2
  have yc3 : u1.cell? ⟨w.heap.size, 3, none⟩ = some (.int .u64 x3) := Z1.out.cell 3
  have yf3 : u1.frozen? ⟨w.heap.size, 3, none⟩ = false := Z1.out.free 3
  have yc4 : u1.cell? ⟨w.heap.size, 4, none⟩ = some (.int .u64 x4) := Z1.out.cell 4
  have yf4 : u1.frozen? ⟨w.heap.size, 4, none⟩ = false := Z1.out.free 4
  have yc5 : u1.cell? ⟨w.heap.size, 5, none⟩ = some (.int .u64 x5) := Z1.out.cell 5
  have yf5 : u1.frozen? ⟨w.heap.size, 5, none⟩ = false := Z1.out.free 5
  have lt1 : w.heap.size < u1.heap.size := blk_lt Z1.out
  go_wp2_with fail
  have B2 : Hid (Below w.heap.size w ((u1.setCell ⟨w.heap.size, 4, none⟩ (.int .u64 y)).alloc (.cells #[.int .i64 c0, .int .i64 c1, .int .i64 c2, .bool c3, .bool c4, .bool c5, .int .u64 c6, .int .i64 c7, .int .u64 c8, .int .i64 c9, .int .i64 c10, .int .i64 c11, .int .i64 c12] 30)).drew) := below_drew (below_new (B1.out.setCell (Nat.le_refl _) _) _)
  have K2 : Hid (Blk ((u1.setCell ⟨w.heap.size, 4, none⟩ (.int .u64 y)).alloc (.cells #[.int .i64 c0, .int .i64 c1, .int .i64 c2, .bool c3, .bool c4, .bool c5, .int .u64 c6, .int .i64 c7, .int .u64 c8, .int .i64 c9, .int .i64 c10, .int .i64 c11, .int .i64 c12] 30)).drew u1.heap.size [.int .i64 c0, .int .i64 c1, .int .i64 c2, .bool c3, .bool c4, .bool c5, .int .u64 c6, .int .i64 c7, .int .u64 c8, .int .i64 c9, .int .i64 c10, .int .i64 c11, .int .i64 c12] 30) := by
    have := Blk.made (u1.setCell ⟨w.heap.size, 4, none⟩ (.int .u64 y)) [.int .i64 c0, .int .i64 c1, .int .i64 c2, .bool c3, .bool c4, .bool c5, .int .u64 c6, .int .i64 c7, .int .u64 c8, .int .i64 c9, .int .i64 c10, .int .i64 c11, .int .i64 c12] 30
    rw [show (u1.setCell ⟨w.heap.size, 4, none⟩ (.int .u64 y)).heap.size = u1.heap.size by simp] at this
    exact this
  go_region
  all_goals (go_wp2_with fail)
  all_goals (refine (R2.out _).mono ?_; rintro e u3 ⟨rfl, hb⟩)
  all_goals (have B3 : Hid (Below w.heap.size w u3) := below_then B2.out hb)
  all_goals (have E3 : Hid (Blk (u3.alloc (.cells #[.int .i64 0, .int .i64 0, .int .i64 0, .bool false, .bool false, .bool false, .int .u64 0, .int .i64 0, .int .u64 0, .int .i64 0, .int .i64 0, .int .i64 0, .int .i64 0] 30)) u3.heap.size [.int .i64 0, .int .i64 0, .int .i64 0, .bool false, .bool false, .bool false, .int .u64 0, .int .i64 0, .int .u64 0, .int .i64 0, .int .i64 0, .int .i64 0, .int .i64 0] 30) := Blk.made u3 _ _)
  all_goals (clear hb)
  all_goals (go_wp2_with fail)
  all_goals (refine (AWH.out _).mono ?_; rintro e u9 ⟨rfl, hb⟩)
  all_goals (have B9 : Hid (Below w.heap.size w u9) := below_then (below_new B3.out _) hb)
  all_goals (have E9 : Hid (Blk u9 u3.heap.size [.int .i64 0, .int .i64 0, .int .i64 0, .bool false, .bool false, .bool false, .int .u64 0, .int .i64 0, .int .u64 0, .int .i64 0, .int .i64 0, .int .i64 0, .int .i64 0] 30) := E3.out.below hb)
  all_goals (clear hb)
  all_goals (have dc0 : u9.cell? ⟨u3.heap.size, 0, none⟩ = some (.int .i64 0) := E9.out.cell 0)
  all_goals (have dc1 : u9.cell? ⟨u3.heap.size, 1, none⟩ = some (.int .i64 0) := E9.out.cell 1)
  all_goals (have dc2 : u9.cell? ⟨u3.heap.size, 2, none⟩ = some (.int .i64 0) := E9.out.cell 2)
  all_goals (have dc3 : u9.cell? ⟨u3.heap.size, 3, none⟩ = some (.bool false) := E9.out.cell 3)
  all_goals (have dc4 : u9.cell? ⟨u3.heap.size, 4, none⟩ = some (.bool false) := E9.out.cell 4)
  all_goals (have dc5 : u9.cell? ⟨u3.heap.size, 5, none⟩ = some (.bool false) := E9.out.cell 5)
  all_goals (have dc6 : u9.cell? ⟨u3.heap.size, 6, none⟩ = some (.int .u64 0) := E9.out.cell 6)
  all_goals (have dc7 : u9.cell? ⟨u3.heap.size, 7, none⟩ = some (.int .i64 0) := E9.out.cell 7)
  all_goals (have dc8 : u9.cell? ⟨u3.heap.size, 8, none⟩ = some (.int .u64 0) := E9.out.cell 8)
  all_goals (have dc9 : u9.cell? ⟨u3.heap.size, 9, none⟩ = some (.int .i64 0) := E9.out.cell 9)
  all_goals (have dc10 : u9.cell? ⟨u3.heap.size, 10, none⟩ = some (.int .i64 0) := E9.out.cell 10)
  all_goals (have dc11 : u9.cell? ⟨u3.heap.size, 11, none⟩ = some (.int .i64 0) := E9.out.cell 11)
  all_goals (have dc12 : u9.cell? ⟨u3.heap.size, 12, none⟩ = some (.int .i64 0) := E9.out.cell 12)
  all_goals (have l3 : u3.heap.size < u9.heap.size := blk_lt E9.out)
  all_goals (go_wp2_with fail)
  all_goals (go_ret)
  all_goals (exact ⟨rfl, B9.out⟩)
set_option maxRecDepth 8000 in
set_option maxHeartbeats 8000000 in
theorem bitY5 (x0 x1 x2 x3 x4 x5 : Int) (c0 c1 c2 c6 c7 c8 c9 c10 c11 c12 : Int) (c3 c4 c5 : Bool) (d0 d1 d2 d6 d7 d8 d9 d10 d11 d12 : Int) (d3 d4 d5 : Bool) (n : Nat) (s y : Int) (n63 : n ≤ 63) (s0 : 1 ≤ s) (s1 : s < 18446744073709551616) (hsn : (2 : Int) ^ n = s) (hy : bits .xor .u64 x5 s = y) (g0' : 0 ≤ y) (g1' : y < 18446744073709551616) (w : World) (R1 : Hid (∀ W : World, Calls Try.prog 9 #[.agg #[.int .u64 x0, .int .u64 x1, .int .u64 x2, .int .u64 x3, .int .u64 x4, .int .u64 x5]] W fun e w' => e = .returned (.tuple #[.agg #[.int .i64 c0, .int .i64 c1, .int .i64 c2, .bool c3, .bool c4, .bool c5, .int .u64 c6, .int .i64 c7, .int .u64 c8, .int .i64 c9, .int .i64 c10, .int .i64 c11, .int .i64 c12], .int .i64 0]) ∧ Below W.heap.size W w'))
    (R2 : Hid (∀ W : World, Calls Try.prog 9 #[.agg #[.int .u64 x0, .int .u64 x1, .int .u64 x2, .int .u64 x3, .int .u64 x4, .int .u64 y]] W fun e w' => e = .returned (.tuple #[.agg #[.int .i64 d0, .int .i64 d1, .int .i64 d2, .bool d3, .bool d4, .bool d5, .int .u64 d6, .int .i64 d7, .int .u64 d8, .int .i64 d9, .int .i64 d10, .int .i64 d11, .int .i64 d12], .int .i64 0]) ∧ Below W.heap.size W w')) (NE : ∀ W : World, (binOp .neq 30 (.agg #[.int .i64 d0, .int .i64 d1, .int .i64 d2, .bool d3, .bool d4, .bool d5, .int .u64 d6, .int .i64 d7, .int .u64 d8, .int .i64 d9, .int .i64 d10, .int .i64 d11, .int .i64 d12]) (.agg #[.int .i64 c0, .int .i64 c1, .int .i64 c2, .bool c3, .bool c4, .bool c5, .int .u64 c6, .int .i64 c7, .int .u64 c8, .int .i64 c9, .int .i64 c10, .int .i64 c11, .int .i64 c12])).run Try.prog W = .ok (.bool true) W) : Calls Try.prog 6 #[.agg #[.int .u64 x0, .int .u64 x1, .int .u64 x2, .int .u64 x3, .int .u64 x4, .int .u64 x5], .int .i64 5, .int .i64 (n : Int)] w fun e w' => e = .returned (.bool true) ∧ Below w.heap.size w w' := by
  have AWH : Hid (∀ W : World, Calls Try.prog 11 #[] W fun e w' => e = .returned (.bool true) ∧ Below W.heap.size W w') := fun W => awake_any W
  have Z0 : Hid (Blk (w.alloc (.cells #[.int .u64 x0, .int .u64 x1, .int .u64 x2, .int .u64 x3, .int .u64 x4, .int .u64 x5] 24)) w.heap.size [.int .u64 x0, .int .u64 x1, .int .u64 x2, .int .u64 x3, .int .u64 x4, .int .u64 x5] 24) := Blk.made w _ _
  have dq3 : decide ((n : Int) < 0) = false := by simp
  have dq4 : decide ((63 : Int) < (n : Int)) = false := by simp; omega
  go_enter Try.func6, Try.ntmps6
  go_wp2_with fail
  refine (R1.out _).mono ?_
  rintro e u1 ⟨rfl, hb⟩
  have B1 : Hid (Below w.heap.size w u1) := below_then (Go.Joins.below_alloc1 _ _) hb
  have Z1 : Hid (Blk u1 w.heap.size [.int .u64 x0, .int .u64 x1, .int .u64 x2, .int .u64 x3, .int .u64 x4, .int .u64 x5] 24) := Z0.out.below hb
  clear hb
  have yc0 : u1.cell? ⟨w.heap.size, 0, none⟩ = some (.int .u64 x0) := Z1.out.cell 0
  have yf0 : u1.frozen? ⟨w.heap.size, 0, none⟩ = false := Z1.out.free 0
  have yc1 : u1.cell? ⟨w.heap.size, 1, none⟩ = some (.int .u64 x1) := Z1.out.cell 1
  have yf1 : u1.frozen? ⟨w.heap.size, 1, none⟩ = false := Z1.out.free 1
  have yc2 : u1.cell? ⟨w.heap.size, 2, none⟩ = some (.int .u64 x2) := Z1.out.cell 2
  have yf2 : u1.frozen? ⟨w.heap.size, 2, none⟩ = false := Z1.out.free 2
  have yc3 : u1.cell? ⟨w.heap.size, 3, none⟩ = some (.int .u64 x3) := Z1.out.cell 3
  have yf3 : u1.frozen? ⟨w.heap.size, 3, none⟩ = false := Z1.out.free 3
  have yc4 : u1.cell? ⟨w.heap.size, 4, none⟩ = some (.int .u64 x4) := Z1.out.cell 4
  have yf4 : u1.frozen? ⟨w.heap.size, 4, none⟩ = false := Z1.out.free 4
  have yc5 : u1.cell? ⟨w.heap.size, 5, none⟩ = some (.int .u64 x5) := Z1.out.cell 5
  have yf5 : u1.frozen? ⟨w.heap.size, 5, none⟩ = false := Z1.out.free 5
  have lt1 : w.heap.size < u1.heap.size := blk_lt Z1.out
  go_wp2_with fail
  have B2 : Hid (Below w.heap.size w ((u1.setCell ⟨w.heap.size, 5, none⟩ (.int .u64 y)).alloc (.cells #[.int .i64 c0, .int .i64 c1, .int .i64 c2, .bool c3, .bool c4, .bool c5, .int .u64 c6, .int .i64 c7, .int .u64 c8, .int .i64 c9, .int .i64 c10, .int .i64 c11, .int .i64 c12] 30)).drew) := below_drew (below_new (B1.out.setCell (Nat.le_refl _) _) _)
  have K2 : Hid (Blk ((u1.setCell ⟨w.heap.size, 5, none⟩ (.int .u64 y)).alloc (.cells #[.int .i64 c0, .int .i64 c1, .int .i64 c2, .bool c3, .bool c4, .bool c5, .int .u64 c6, .int .i64 c7, .int .u64 c8, .int .i64 c9, .int .i64 c10, .int .i64 c11, .int .i64 c12] 30)).drew u1.heap.size [.int .i64 c0, .int .i64 c1, .int .i64 c2, .bool c3, .bool c4, .bool c5, .int .u64 c6, .int .i64 c7, .int .u64 c8, .int .i64 c9, .int .i64 c10, .int .i64 c11, .int .i64 c12] 30) := by
    have := Blk.made (u1.setCell ⟨w.heap.size, 5, none⟩ (.int .u64 y)) [.int .i64 c0, .int .i64 c1, .int .i64 c2, .bool c3, .bool c4, .bool c5, .int .u64 c6, .int .i64 c7, .int .u64 c8, .int .i64 c9, .int .i64 c10, .int .i64 c11, .int .i64 c12] 30
    rw [show (u1.setCell ⟨w.heap.size, 5, none⟩ (.int .u64 y)).heap.size = u1.heap.size by simp] at this
    exact this
  go_region
  all_goals (go_wp2_with fail)
  all_goals (refine (R2.out _).mono ?_; rintro e u3 ⟨rfl, hb⟩)
  all_goals (have B3 : Hid (Below w.heap.size w u3) := below_then B2.out hb)
  all_goals (have K3 : Hid (Blk u3 u1.heap.size [.int .i64 c0, .int .i64 c1, .int .i64 c2, .bool c3, .bool c4, .bool c5, .int .u64 c6, .int .i64 c7, .int .u64 c8, .int .i64 c9, .int .i64 c10, .int .i64 c11, .int .i64 c12] 30) := K2.out.below hb)
  all_goals (have E3 : Hid (Blk (u3.alloc (.cells #[.int .i64 d0, .int .i64 d1, .int .i64 d2, .bool d3, .bool d4, .bool d5, .int .u64 d6, .int .i64 d7, .int .u64 d8, .int .i64 d9, .int .i64 d10, .int .i64 d11, .int .i64 d12] 30)) u3.heap.size [.int .i64 d0, .int .i64 d1, .int .i64 d2, .bool d3, .bool d4, .bool d5, .int .u64 d6, .int .i64 d7, .int .u64 d8, .int .i64 d9, .int .i64 d10, .int .i64 d11, .int .i64 d12] 30) := Blk.made u3 _ _)
  all_goals (have K4 : Hid (Blk (u3.alloc (.cells #[.int .i64 d0, .int .i64 d1, .int .i64 d2, .bool d3, .bool d4, .bool d5, .int .u64 d6, .int .i64 d7, .int .u64 d8, .int .i64 d9, .int .i64 d10, .int .i64 d11, .int .i64 d12] 30)) u1.heap.size [.int .i64 c0, .int .i64 c1, .int .i64 c2, .bool c3, .bool c4, .bool c5, .int .u64 c6, .int .i64 c7, .int .u64 c8, .int .i64 c9, .int .i64 c10, .int .i64 c11, .int .i64 c12] 30) := K3.out.below (Go.Joins.below_alloc1 _ _))
  all_goals (clear hb)
  all_goals (go_wp2_with fail)
  all_goals (refine (AWH.out _).mono ?_; rintro e u9 ⟨rfl, hb⟩)
  all_goals (have B9 : Hid (Below w.heap.size w u9) := below_then (below_new B3.out _) hb)
  all_goals (have E9 : Hid (Blk u9 u3.heap.size [.int .i64 d0, .int .i64 d1, .int .i64 d2, .bool d3, .bool d4, .bool d5, .int .u64 d6, .int .i64 d7, .int .u64 d8, .int .i64 d9, .int .i64 d10, .int .i64 d11, .int .i64 d12] 30) := E3.out.below hb)
  all_goals (have K9 : Hid (Blk u9 u1.heap.size [.int .i64 c0, .int .i64 c1, .int .i64 c2, .bool c3, .bool c4, .bool c5, .int .u64 c6, .int .i64 c7, .int .u64 c8, .int .i64 c9, .int .i64 c10, .int .i64 c11, .int .i64 c12] 30) := K4.out.below hb)
  all_goals (clear hb)
  all_goals (have dc0 : u9.cell? ⟨u3.heap.size, 0, none⟩ = some (.int .i64 d0) := E9.out.cell 0)
  all_goals (have dc1 : u9.cell? ⟨u3.heap.size, 1, none⟩ = some (.int .i64 d1) := E9.out.cell 1)
  all_goals (have dc2 : u9.cell? ⟨u3.heap.size, 2, none⟩ = some (.int .i64 d2) := E9.out.cell 2)
  all_goals (have dc3 : u9.cell? ⟨u3.heap.size, 3, none⟩ = some (.bool d3) := E9.out.cell 3)
  all_goals (have dc4 : u9.cell? ⟨u3.heap.size, 4, none⟩ = some (.bool d4) := E9.out.cell 4)
  all_goals (have dc5 : u9.cell? ⟨u3.heap.size, 5, none⟩ = some (.bool d5) := E9.out.cell 5)
  all_goals (have dc6 : u9.cell? ⟨u3.heap.size, 6, none⟩ = some (.int .u64 d6) := E9.out.cell 6)
  all_goals (have dc7 : u9.cell? ⟨u3.heap.size, 7, none⟩ = some (.int .i64 d7) := E9.out.cell 7)
  all_goals (have dc8 : u9.cell? ⟨u3.heap.size, 8, none⟩ = some (.int .u64 d8) := E9.out.cell 8)
  all_goals (have dc9 : u9.cell? ⟨u3.heap.size, 9, none⟩ = some (.int .i64 d9) := E9.out.cell 9)
  all_goals (have dc10 : u9.cell? ⟨u3.heap.size, 10, none⟩ = some (.int .i64 d10) := E9.out.cell 10)
  all_goals (have dc11 : u9.cell? ⟨u3.heap.size, 11, none⟩ = some (.int .i64 d11) := E9.out.cell 11)
  all_goals (have dc12 : u9.cell? ⟨u3.heap.size, 12, none⟩ = some (.int .i64 d12) := E9.out.cell 12)
  all_goals (have cc0 : u9.cell? ⟨u1.heap.size, 0, none⟩ = some (.int .i64 c0) := K9.out.cell 0)
  all_goals (have cc1 : u9.cell? ⟨u1.heap.size, 1, none⟩ = some (.int .i64 c1) := K9.out.cell 1)
  all_goals (have cc2 : u9.cell? ⟨u1.heap.size, 2, none⟩ = some (.int .i64 c2) := K9.out.cell 2)
  all_goals (have cc3 : u9.cell? ⟨u1.heap.size, 3, none⟩ = some (.bool c3) := K9.out.cell 3)
  all_goals (have cc4 : u9.cell? ⟨u1.heap.size, 4, none⟩ = some (.bool c4) := K9.out.cell 4)
  all_goals (have cc5 : u9.cell? ⟨u1.heap.size, 5, none⟩ = some (.bool c5) := K9.out.cell 5)
  all_goals (have cc6 : u9.cell? ⟨u1.heap.size, 6, none⟩ = some (.int .u64 c6) := K9.out.cell 6)
  all_goals (have cc7 : u9.cell? ⟨u1.heap.size, 7, none⟩ = some (.int .i64 c7) := K9.out.cell 7)
  all_goals (have cc8 : u9.cell? ⟨u1.heap.size, 8, none⟩ = some (.int .u64 c8) := K9.out.cell 8)
  all_goals (have cc9 : u9.cell? ⟨u1.heap.size, 9, none⟩ = some (.int .i64 c9) := K9.out.cell 9)
  all_goals (have cc10 : u9.cell? ⟨u1.heap.size, 10, none⟩ = some (.int .i64 c10) := K9.out.cell 10)
  all_goals (have cc11 : u9.cell? ⟨u1.heap.size, 11, none⟩ = some (.int .i64 c11) := K9.out.cell 11)
  all_goals (have cc12 : u9.cell? ⟨u1.heap.size, 12, none⟩ = some (.int .i64 c12) := K9.out.cell 12)
  all_goals (have l3 : u3.heap.size < u9.heap.size := blk_lt E9.out)
  all_goals (have l1 : u1.heap.size < u9.heap.size := blk_lt K9.out)
  all_goals (go_wp2_with fail)
  all_goals (go_ret)
  all_goals (exact ⟨rfl, B9.out⟩)
set_option maxRecDepth 8000 in
set_option maxHeartbeats 8000000 in
theorem bitN5 (x0 x1 x2 x3 x4 x5 : Int) (c0 c1 c2 c6 c7 c8 c9 c10 c11 c12 : Int) (c3 c4 c5 : Bool)  (n : Nat) (s y : Int) (n63 : n ≤ 63) (s0 : 1 ≤ s) (s1 : s < 18446744073709551616) (hsn : (2 : Int) ^ n = s) (hy : bits .xor .u64 x5 s = y) (g0' : 0 ≤ y) (g1' : y < 18446744073709551616) (w : World) (R1 : Hid (∀ W : World, Calls Try.prog 9 #[.agg #[.int .u64 x0, .int .u64 x1, .int .u64 x2, .int .u64 x3, .int .u64 x4, .int .u64 x5]] W fun e w' => e = .returned (.tuple #[.agg #[.int .i64 c0, .int .i64 c1, .int .i64 c2, .bool c3, .bool c4, .bool c5, .int .u64 c6, .int .i64 c7, .int .u64 c8, .int .i64 c9, .int .i64 c10, .int .i64 c11, .int .i64 c12], .int .i64 0]) ∧ Below W.heap.size W w'))
    (R2 : Hid (∀ W : World, Calls Try.prog 9 #[.agg #[.int .u64 x0, .int .u64 x1, .int .u64 x2, .int .u64 x3, .int .u64 x4, .int .u64 y]] W fun e w' => e = .returned (.tuple #[.agg #[.int .i64 0, .int .i64 0, .int .i64 0, .bool false, .bool false, .bool false, .int .u64 0, .int .i64 0, .int .u64 0, .int .i64 0, .int .i64 0, .int .i64 0, .int .i64 0], .int .i64 13]) ∧ Below W.heap.size W w'))  : Calls Try.prog 6 #[.agg #[.int .u64 x0, .int .u64 x1, .int .u64 x2, .int .u64 x3, .int .u64 x4, .int .u64 x5], .int .i64 5, .int .i64 (n : Int)] w fun e w' => e = .returned (.bool true) ∧ Below w.heap.size w w' := by
  have AWH : Hid (∀ W : World, Calls Try.prog 11 #[] W fun e w' => e = .returned (.bool true) ∧ Below W.heap.size W w') := fun W => awake_any W
  have Z0 : Hid (Blk (w.alloc (.cells #[.int .u64 x0, .int .u64 x1, .int .u64 x2, .int .u64 x3, .int .u64 x4, .int .u64 x5] 24)) w.heap.size [.int .u64 x0, .int .u64 x1, .int .u64 x2, .int .u64 x3, .int .u64 x4, .int .u64 x5] 24) := Blk.made w _ _
  have dq3 : decide ((n : Int) < 0) = false := by simp
  have dq4 : decide ((63 : Int) < (n : Int)) = false := by simp; omega
  have EQ : ∀ W : World, (binOp .eql 30 (.agg #[.int .i64 0, .int .i64 0, .int .i64 0, .bool false, .bool false, .bool false, .int .u64 0, .int .i64 0, .int .u64 0, .int .i64 0, .int .i64 0, .int .i64 0, .int .i64 0]) (.agg #[.int .i64 0, .int .i64 0, .int .i64 0, .bool false, .bool false, .bool false, .int .u64 0, .int .i64 0, .int .u64 0, .int .i64 0, .int .i64 0, .int .i64 0, .int .i64 0])).run Try.prog W = .ok (.bool true) W := fun W => by kernel_rfl
  go_enter Try.func6, Try.ntmps6
  go_wp2_with fail
  refine (R1.out _).mono ?_
  rintro e u1 ⟨rfl, hb⟩
  have B1 : Hid (Below w.heap.size w u1) := below_then (Go.Joins.below_alloc1 _ _) hb
  have Z1 : Hid (Blk u1 w.heap.size [.int .u64 x0, .int .u64 x1, .int .u64 x2, .int .u64 x3, .int .u64 x4, .int .u64 x5] 24) := Z0.out.below hb
  clear hb
  have yc0 : u1.cell? ⟨w.heap.size, 0, none⟩ = some (.int .u64 x0) := Z1.out.cell 0
  have yf0 : u1.frozen? ⟨w.heap.size, 0, none⟩ = false := Z1.out.free 0
  have yc1 : u1.cell? ⟨w.heap.size, 1, none⟩ = some (.int .u64 x1) := Z1.out.cell 1
  have yf1 : u1.frozen? ⟨w.heap.size, 1, none⟩ = false := Z1.out.free 1
  have yc2 : u1.cell? ⟨w.heap.size, 2, none⟩ = some (.int .u64 x2) := Z1.out.cell 2
  have yf2 : u1.frozen? ⟨w.heap.size, 2, none⟩ = false := Z1.out.free 2
  have yc3 : u1.cell? ⟨w.heap.size, 3, none⟩ = some (.int .u64 x3) := Z1.out.cell 3
  have yf3 : u1.frozen? ⟨w.heap.size, 3, none⟩ = false := Z1.out.free 3
  have yc4 : u1.cell? ⟨w.heap.size, 4, none⟩ = some (.int .u64 x4) := Z1.out.cell 4
  have yf4 : u1.frozen? ⟨w.heap.size, 4, none⟩ = false := Z1.out.free 4
  have yc5 : u1.cell? ⟨w.heap.size, 5, none⟩ = some (.int .u64 x5) := Z1.out.cell 5
  have yf5 : u1.frozen? ⟨w.heap.size, 5, none⟩ = false := Z1.out.free 5
  have lt1 : w.heap.size < u1.heap.size := blk_lt Z1.out
  go_wp2_with fail
  have B2 : Hid (Below w.heap.size w ((u1.setCell ⟨w.heap.size, 5, none⟩ (.int .u64 y)).alloc (.cells #[.int .i64 c0, .int .i64 c1, .int .i64 c2, .bool c3, .bool c4, .bool c5, .int .u64 c6, .int .i64 c7, .int .u64 c8, .int .i64 c9, .int .i64 c10, .int .i64 c11, .int .i64 c12] 30)).drew) := below_drew (below_new (B1.out.setCell (Nat.le_refl _) _) _)
  have K2 : Hid (Blk ((u1.setCell ⟨w.heap.size, 5, none⟩ (.int .u64 y)).alloc (.cells #[.int .i64 c0, .int .i64 c1, .int .i64 c2, .bool c3, .bool c4, .bool c5, .int .u64 c6, .int .i64 c7, .int .u64 c8, .int .i64 c9, .int .i64 c10, .int .i64 c11, .int .i64 c12] 30)).drew u1.heap.size [.int .i64 c0, .int .i64 c1, .int .i64 c2, .bool c3, .bool c4, .bool c5, .int .u64 c6, .int .i64 c7, .int .u64 c8, .int .i64 c9, .int .i64 c10, .int .i64 c11, .int .i64 c12] 30) := by
    have := Blk.made (u1.setCell ⟨w.heap.size, 5, none⟩ (.int .u64 y)) [.int .i64 c0, .int .i64 c1, .int .i64 c2, .bool c3, .bool c4, .bool c5, .int .u64 c6, .int .i64 c7, .int .u64 c8, .int .i64 c9, .int .i64 c10, .int .i64 c11, .int .i64 c12] 30
    rw [show (u1.setCell ⟨w.heap.size, 5, none⟩ (.int .u64 y)).heap.size = u1.heap.size by simp] at this
    exact this
  go_region
  all_goals (go_wp2_with fail)
  all_goals (refine (R2.out _).mono ?_; rintro e u3 ⟨rfl, hb⟩)
  all_goals (have B3 : Hid (Below w.heap.size w u3) := below_then B2.out hb)
  all_goals (have E3 : Hid (Blk (u3.alloc (.cells #[.int .i64 0, .int .i64 0, .int .i64 0, .bool false, .bool false, .bool false, .int .u64 0, .int .i64 0, .int .u64 0, .int .i64 0, .int .i64 0, .int .i64 0, .int .i64 0] 30)) u3.heap.size [.int .i64 0, .int .i64 0, .int .i64 0, .bool false, .bool false, .bool false, .int .u64 0, .int .i64 0, .int .u64 0, .int .i64 0, .int .i64 0, .int .i64 0, .int .i64 0] 30) := Blk.made u3 _ _)
  all_goals (clear hb)
  all_goals (go_wp2_with fail)
  all_goals (refine (AWH.out _).mono ?_; rintro e u9 ⟨rfl, hb⟩)
  all_goals (have B9 : Hid (Below w.heap.size w u9) := below_then (below_new B3.out _) hb)
  all_goals (have E9 : Hid (Blk u9 u3.heap.size [.int .i64 0, .int .i64 0, .int .i64 0, .bool false, .bool false, .bool false, .int .u64 0, .int .i64 0, .int .u64 0, .int .i64 0, .int .i64 0, .int .i64 0, .int .i64 0] 30) := E3.out.below hb)
  all_goals (clear hb)
  all_goals (have dc0 : u9.cell? ⟨u3.heap.size, 0, none⟩ = some (.int .i64 0) := E9.out.cell 0)
  all_goals (have dc1 : u9.cell? ⟨u3.heap.size, 1, none⟩ = some (.int .i64 0) := E9.out.cell 1)
  all_goals (have dc2 : u9.cell? ⟨u3.heap.size, 2, none⟩ = some (.int .i64 0) := E9.out.cell 2)
  all_goals (have dc3 : u9.cell? ⟨u3.heap.size, 3, none⟩ = some (.bool false) := E9.out.cell 3)
  all_goals (have dc4 : u9.cell? ⟨u3.heap.size, 4, none⟩ = some (.bool false) := E9.out.cell 4)
  all_goals (have dc5 : u9.cell? ⟨u3.heap.size, 5, none⟩ = some (.bool false) := E9.out.cell 5)
  all_goals (have dc6 : u9.cell? ⟨u3.heap.size, 6, none⟩ = some (.int .u64 0) := E9.out.cell 6)
  all_goals (have dc7 : u9.cell? ⟨u3.heap.size, 7, none⟩ = some (.int .i64 0) := E9.out.cell 7)
  all_goals (have dc8 : u9.cell? ⟨u3.heap.size, 8, none⟩ = some (.int .u64 0) := E9.out.cell 8)
  all_goals (have dc9 : u9.cell? ⟨u3.heap.size, 9, none⟩ = some (.int .i64 0) := E9.out.cell 9)
  all_goals (have dc10 : u9.cell? ⟨u3.heap.size, 10, none⟩ = some (.int .i64 0) := E9.out.cell 10)
  all_goals (have dc11 : u9.cell? ⟨u3.heap.size, 11, none⟩ = some (.int .i64 0) := E9.out.cell 11)
  all_goals (have dc12 : u9.cell? ⟨u3.heap.size, 12, none⟩ = some (.int .i64 0) := E9.out.cell 12)
  all_goals (have l3 : u3.heap.size < u9.heap.size := blk_lt E9.out)
  all_goals (go_wp2_with fail)
  all_goals (go_ret)
  all_goals (exact ⟨rfl, B9.out⟩)
end Go.Proofs.Ytccbacjiiffheaa
