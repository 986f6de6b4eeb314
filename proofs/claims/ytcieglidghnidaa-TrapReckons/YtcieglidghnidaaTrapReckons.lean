/- TrapReckons: of any state, operation and registers: a register has just what layer 2 says, all others stay, and what was told stays told. No condition. -/
import Derived.Test.YtcieglidghnidaaRows
import Derived.ProofKit
import Derived.OpenShut
import Derived.Carry
import Derived.Test.YtcieglidghnidaaA5
import Derived.Test.YtcieglidghnidaaA6
import Derived.Test.YtcieglidghnidaaA8
namespace Go.Proofs.Ytcieglidghnidaa.trapReckons
open Go.ChangeShapes Go.WideShapes Go.ChangeAt Go.RowKit Go.Maps
set_option linter.unusedSimpArgs false
set_option linter.unusedVariables false
set_option maxHeartbeats 8000000 in
theorem bad0 (r0 r1 r2 r3 t en : Int) (i : Bool) (a c s0 s1 s2 s3 : Int) (op x y z : Int) (h0 : x < 0) (w : World) : Calls Try.prog 5 #[.agg #[.int .u64 r0, .int .u64 r1, .int .u64 r2, .int .u64 r3, .int .i64 t, .int .u64 en, .bool i, .int .u64 a, .int .i64 c, .int .u64 s0, .int .u64 s1, .int .u64 s2, .int .u64 s3], .int .i64 op, .int .i64 x, .int .i64 y, .int .i64 z] w fun e w' => e = .returned (.bool true) ∧ Below w.heap.size w w' := by
  have d0 : decide (x < 0) = true := decide_eq_true h0
  have C1 : Hid (∀ W : World, Calls Try.prog 12 #[.agg #[.int .u64 r0, .int .u64 r1, .int .u64 r2, .int .u64 r3, .int .i64 t, .int .u64 en, .bool i, .int .u64 a, .int .i64 c, .int .u64 s0, .int .u64 s1, .int .u64 s2, .int .u64 s3], .int .i64 op, .int .i64 x, .int .i64 y, .int .i64 z] W fun e w' => e = .returned (.tuple #[.agg #[.int .u64 r0, .int .u64 r1, .int .u64 r2, .int .u64 r3, .int .i64 t, .int .u64 en, .bool i, .int .u64 a, .int .i64 c, .int .u64 s0, .int .u64 s1, .int .u64 s2, .int .u64 s3], .int .i64 1]) ∧ Below W.heap.size W w') := fun W => reckon_no r0 r1 r2 r3 t en i a c s0 s1 s2 s3 op x y z (by omega) W
  have E : ∀ W : World, (binOp .eql 28 (.agg #[.int .u64 r0, .int .u64 r1, .int .u64 r2, .int .u64 r3, .int .i64 t, .int .u64 en, .bool i, .int .u64 a, .int .i64 c, .int .u64 s0, .int .u64 s1, .int .u64 s2, .int .u64 s3]) (.agg #[.int .u64 r0, .int .u64 r1, .int .u64 r2, .int .u64 r3, .int .i64 t, .int .u64 en, .bool i, .int .u64 a, .int .i64 c, .int .u64 s0, .int .u64 s1, .int .u64 s2, .int .u64 s3])).run Try.prog W = .ok (.bool true) W := fun W => (eqS (St.mk r0 r1 r2 r3 t en i a c s0 s1 s2 s3) (St.mk r0 r1 r2 r3 t en i a c s0 s1 s2 s3) W).trans (by simp)
  have AW : Hid (∀ W : World, Calls Try.prog 8 #[] W fun e w' => e = .returned (.bool true) ∧ Below W.heap.size W w') := fun W => awake_any W
  go_enter Try.func5, Try.ntmps5
  go_wp2_with fail
  refine (C1.out _).mono ?_
  rintro e u1 ⟨rfl, hb⟩
  have B1 : Hid (Below w.heap.size w u1) := below_then (below_new (Below.refl _ _) _) hb
  have Zs1 : Hid (Blk u1 (w.heap.size) [.int .u64 r0, .int .u64 r1, .int .u64 r2, .int .u64 r3, .int .i64 t, .int .u64 en, .bool i, .int .u64 a, .int .i64 c, .int .u64 s0, .int .u64 s1, .int .u64 s2, .int .u64 s3] 28) := Blk.below (Blk.made _ _ _) hb
  clear hb C1
  go_wp2_with fail
  refine (AW.out _).mono ?_
  rintro e u2 ⟨rfl, hb⟩
  have B2 : Hid (Below w.heap.size w u2) := below_then (below_new (B1.out) _) hb
  have Zs2 : Hid (Blk u2 (w.heap.size) [.int .u64 r0, .int .u64 r1, .int .u64 r2, .int .u64 r3, .int .i64 t, .int .u64 en, .bool i, .int .u64 a, .int .i64 c, .int .u64 s0, .int .u64 s1, .int .u64 s2, .int .u64 s3] 28) := (Zs1.out.below (Go.Joins.below_alloc1 _ _)).below hb
  have Zt2 : Hid (Blk u2 (u1.heap.size) [.int .u64 r0, .int .u64 r1, .int .u64 r2, .int .u64 r3, .int .i64 t, .int .u64 en, .bool i, .int .u64 a, .int .i64 c, .int .u64 s0, .int .u64 s1, .int .u64 s2, .int .u64 s3] 28) := Blk.below (Blk.made _ _ _) hb
  clear hb B1 Zs1 AW
  have ls2 : w.heap.size < u2.heap.size := blk_lt Zs2.out
  have cs2_0 : u2.cell? ⟨w.heap.size, 0, none⟩ = some (.int .u64 r0) := Zs2.out.cell 0
  have cs2_1 : u2.cell? ⟨w.heap.size, 1, none⟩ = some (.int .u64 r1) := Zs2.out.cell 1
  have cs2_2 : u2.cell? ⟨w.heap.size, 2, none⟩ = some (.int .u64 r2) := Zs2.out.cell 2
  have cs2_3 : u2.cell? ⟨w.heap.size, 3, none⟩ = some (.int .u64 r3) := Zs2.out.cell 3
  have cs2_4 : u2.cell? ⟨w.heap.size, 4, none⟩ = some (.int .i64 t) := Zs2.out.cell 4
  have cs2_5 : u2.cell? ⟨w.heap.size, 5, none⟩ = some (.int .u64 en) := Zs2.out.cell 5
  have cs2_6 : u2.cell? ⟨w.heap.size, 6, none⟩ = some (.bool i) := Zs2.out.cell 6
  have cs2_7 : u2.cell? ⟨w.heap.size, 7, none⟩ = some (.int .u64 a) := Zs2.out.cell 7
  have cs2_8 : u2.cell? ⟨w.heap.size, 8, none⟩ = some (.int .i64 c) := Zs2.out.cell 8
  have cs2_9 : u2.cell? ⟨w.heap.size, 9, none⟩ = some (.int .u64 s0) := Zs2.out.cell 9
  have cs2_10 : u2.cell? ⟨w.heap.size, 10, none⟩ = some (.int .u64 s1) := Zs2.out.cell 10
  have cs2_11 : u2.cell? ⟨w.heap.size, 11, none⟩ = some (.int .u64 s2) := Zs2.out.cell 11
  have cs2_12 : u2.cell? ⟨w.heap.size, 12, none⟩ = some (.int .u64 s3) := Zs2.out.cell 12
  have lt2 : u1.heap.size < u2.heap.size := blk_lt Zt2.out
  have ct2_0 : u2.cell? ⟨u1.heap.size, 0, none⟩ = some (.int .u64 r0) := Zt2.out.cell 0
  have ct2_1 : u2.cell? ⟨u1.heap.size, 1, none⟩ = some (.int .u64 r1) := Zt2.out.cell 1
  have ct2_2 : u2.cell? ⟨u1.heap.size, 2, none⟩ = some (.int .u64 r2) := Zt2.out.cell 2
  have ct2_3 : u2.cell? ⟨u1.heap.size, 3, none⟩ = some (.int .u64 r3) := Zt2.out.cell 3
  have ct2_4 : u2.cell? ⟨u1.heap.size, 4, none⟩ = some (.int .i64 t) := Zt2.out.cell 4
  have ct2_5 : u2.cell? ⟨u1.heap.size, 5, none⟩ = some (.int .u64 en) := Zt2.out.cell 5
  have ct2_6 : u2.cell? ⟨u1.heap.size, 6, none⟩ = some (.bool i) := Zt2.out.cell 6
  have ct2_7 : u2.cell? ⟨u1.heap.size, 7, none⟩ = some (.int .u64 a) := Zt2.out.cell 7
  have ct2_8 : u2.cell? ⟨u1.heap.size, 8, none⟩ = some (.int .i64 c) := Zt2.out.cell 8
  have ct2_9 : u2.cell? ⟨u1.heap.size, 9, none⟩ = some (.int .u64 s0) := Zt2.out.cell 9
  have ct2_10 : u2.cell? ⟨u1.heap.size, 10, none⟩ = some (.int .u64 s1) := Zt2.out.cell 10
  have ct2_11 : u2.cell? ⟨u1.heap.size, 11, none⟩ = some (.int .u64 s2) := Zt2.out.cell 11
  have ct2_12 : u2.cell? ⟨u1.heap.size, 12, none⟩ = some (.int .u64 s3) := Zt2.out.cell 12
  go_wp2_with fail
  go_ret
  exact ⟨rfl, B2.out⟩
set_option maxHeartbeats 8000000 in
theorem bad1 (r0 r1 r2 r3 t en : Int) (i : Bool) (a c s0 s1 s2 s3 : Int) (op x y z : Int) (h0 : ¬ x < 0) (h1 : 3 < x) (w : World) : Calls Try.prog 5 #[.agg #[.int .u64 r0, .int .u64 r1, .int .u64 r2, .int .u64 r3, .int .i64 t, .int .u64 en, .bool i, .int .u64 a, .int .i64 c, .int .u64 s0, .int .u64 s1, .int .u64 s2, .int .u64 s3], .int .i64 op, .int .i64 x, .int .i64 y, .int .i64 z] w fun e w' => e = .returned (.bool true) ∧ Below w.heap.size w w' := by
  have d0 : decide (x < 0) = false := decide_eq_false h0
  have d1 : decide (3 < x) = true := decide_eq_true h1
  have C1 : Hid (∀ W : World, Calls Try.prog 12 #[.agg #[.int .u64 r0, .int .u64 r1, .int .u64 r2, .int .u64 r3, .int .i64 t, .int .u64 en, .bool i, .int .u64 a, .int .i64 c, .int .u64 s0, .int .u64 s1, .int .u64 s2, .int .u64 s3], .int .i64 op, .int .i64 x, .int .i64 y, .int .i64 z] W fun e w' => e = .returned (.tuple #[.agg #[.int .u64 r0, .int .u64 r1, .int .u64 r2, .int .u64 r3, .int .i64 t, .int .u64 en, .bool i, .int .u64 a, .int .i64 c, .int .u64 s0, .int .u64 s1, .int .u64 s2, .int .u64 s3], .int .i64 1]) ∧ Below W.heap.size W w') := fun W => reckon_no r0 r1 r2 r3 t en i a c s0 s1 s2 s3 op x y z (by omega) W
  have E : ∀ W : World, (binOp .eql 28 (.agg #[.int .u64 r0, .int .u64 r1, .int .u64 r2, .int .u64 r3, .int .i64 t, .int .u64 en, .bool i, .int .u64 a, .int .i64 c, .int .u64 s0, .int .u64 s1, .int .u64 s2, .int .u64 s3]) (.agg #[.int .u64 r0, .int .u64 r1, .int .u64 r2, .int .u64 r3, .int .i64 t, .int .u64 en, .bool i, .int .u64 a, .int .i64 c, .int .u64 s0, .int .u64 s1, .int .u64 s2, .int .u64 s3])).run Try.prog W = .ok (.bool true) W := fun W => (eqS (St.mk r0 r1 r2 r3 t en i a c s0 s1 s2 s3) (St.mk r0 r1 r2 r3 t en i a c s0 s1 s2 s3) W).trans (by simp)
  have AW : Hid (∀ W : World, Calls Try.prog 8 #[] W fun e w' => e = .returned (.bool true) ∧ Below W.heap.size W w') := fun W => awake_any W
  go_enter Try.func5, Try.ntmps5
  go_wp2_with fail
  refine (C1.out _).mono ?_
  rintro e u1 ⟨rfl, hb⟩
  have B1 : Hid (Below w.heap.size w u1) := below_then (below_new (Below.refl _ _) _) hb
  have Zs1 : Hid (Blk u1 (w.heap.size) [.int .u64 r0, .int .u64 r1, .int .u64 r2, .int .u64 r3, .int .i64 t, .int .u64 en, .bool i, .int .u64 a, .int .i64 c, .int .u64 s0, .int .u64 s1, .int .u64 s2, .int .u64 s3] 28) := Blk.below (Blk.made _ _ _) hb
  clear hb C1
  go_wp2_with fail
  refine (AW.out _).mono ?_
  rintro e u2 ⟨rfl, hb⟩
  have B2 : Hid (Below w.heap.size w u2) := below_then (below_new (B1.out) _) hb
  have Zs2 : Hid (Blk u2 (w.heap.size) [.int .u64 r0, .int .u64 r1, .int .u64 r2, .int .u64 r3, .int .i64 t, .int .u64 en, .bool i, .int .u64 a, .int .i64 c, .int .u64 s0, .int .u64 s1, .int .u64 s2, .int .u64 s3] 28) := (Zs1.out.below (Go.Joins.below_alloc1 _ _)).below hb
  have Zt2 : Hid (Blk u2 (u1.heap.size) [.int .u64 r0, .int .u64 r1, .int .u64 r2, .int .u64 r3, .int .i64 t, .int .u64 en, .bool i, .int .u64 a, .int .i64 c, .int .u64 s0, .int .u64 s1, .int .u64 s2, .int .u64 s3] 28) := Blk.below (Blk.made _ _ _) hb
  clear hb B1 Zs1 AW
  have ls2 : w.heap.size < u2.heap.size := blk_lt Zs2.out
  have cs2_0 : u2.cell? ⟨w.heap.size, 0, none⟩ = some (.int .u64 r0) := Zs2.out.cell 0
  have cs2_1 : u2.cell? ⟨w.heap.size, 1, none⟩ = some (.int .u64 r1) := Zs2.out.cell 1
  have cs2_2 : u2.cell? ⟨w.heap.size, 2, none⟩ = some (.int .u64 r2) := Zs2.out.cell 2
  have cs2_3 : u2.cell? ⟨w.heap.size, 3, none⟩ = some (.int .u64 r3) := Zs2.out.cell 3
  have cs2_4 : u2.cell? ⟨w.heap.size, 4, none⟩ = some (.int .i64 t) := Zs2.out.cell 4
  have cs2_5 : u2.cell? ⟨w.heap.size, 5, none⟩ = some (.int .u64 en) := Zs2.out.cell 5
  have cs2_6 : u2.cell? ⟨w.heap.size, 6, none⟩ = some (.bool i) := Zs2.out.cell 6
  have cs2_7 : u2.cell? ⟨w.heap.size, 7, none⟩ = some (.int .u64 a) := Zs2.out.cell 7
  have cs2_8 : u2.cell? ⟨w.heap.size, 8, none⟩ = some (.int .i64 c) := Zs2.out.cell 8
  have cs2_9 : u2.cell? ⟨w.heap.size, 9, none⟩ = some (.int .u64 s0) := Zs2.out.cell 9
  have cs2_10 : u2.cell? ⟨w.heap.size, 10, none⟩ = some (.int .u64 s1) := Zs2.out.cell 10
  have cs2_11 : u2.cell? ⟨w.heap.size, 11, none⟩ = some (.int .u64 s2) := Zs2.out.cell 11
  have cs2_12 : u2.cell? ⟨w.heap.size, 12, none⟩ = some (.int .u64 s3) := Zs2.out.cell 12
  have lt2 : u1.heap.size < u2.heap.size := blk_lt Zt2.out
  have ct2_0 : u2.cell? ⟨u1.heap.size, 0, none⟩ = some (.int .u64 r0) := Zt2.out.cell 0
  have ct2_1 : u2.cell? ⟨u1.heap.size, 1, none⟩ = some (.int .u64 r1) := Zt2.out.cell 1
  have ct2_2 : u2.cell? ⟨u1.heap.size, 2, none⟩ = some (.int .u64 r2) := Zt2.out.cell 2
  have ct2_3 : u2.cell? ⟨u1.heap.size, 3, none⟩ = some (.int .u64 r3) := Zt2.out.cell 3
  have ct2_4 : u2.cell? ⟨u1.heap.size, 4, none⟩ = some (.int .i64 t) := Zt2.out.cell 4
  have ct2_5 : u2.cell? ⟨u1.heap.size, 5, none⟩ = some (.int .u64 en) := Zt2.out.cell 5
  have ct2_6 : u2.cell? ⟨u1.heap.size, 6, none⟩ = some (.bool i) := Zt2.out.cell 6
  have ct2_7 : u2.cell? ⟨u1.heap.size, 7, none⟩ = some (.int .u64 a) := Zt2.out.cell 7
  have ct2_8 : u2.cell? ⟨u1.heap.size, 8, none⟩ = some (.int .i64 c) := Zt2.out.cell 8
  have ct2_9 : u2.cell? ⟨u1.heap.size, 9, none⟩ = some (.int .u64 s0) := Zt2.out.cell 9
  have ct2_10 : u2.cell? ⟨u1.heap.size, 10, none⟩ = some (.int .u64 s1) := Zt2.out.cell 10
  have ct2_11 : u2.cell? ⟨u1.heap.size, 11, none⟩ = some (.int .u64 s2) := Zt2.out.cell 11
  have ct2_12 : u2.cell? ⟨u1.heap.size, 12, none⟩ = some (.int .u64 s3) := Zt2.out.cell 12
  go_wp2_with fail
  go_ret
  exact ⟨rfl, B2.out⟩
set_option maxHeartbeats 8000000 in
theorem bad2 (r0 r1 r2 r3 t en : Int) (i : Bool) (a c s0 s1 s2 s3 : Int) (op x y z : Int) (h0 : ¬ x < 0) (h1 : ¬ 3 < x) (h2 : y < 0) (w : World) : Calls Try.prog 5 #[.agg #[.int .u64 r0, .int .u64 r1, .int .u64 r2, .int .u64 r3, .int .i64 t, .int .u64 en, .bool i, .int .u64 a, .int .i64 c, .int .u64 s0, .int .u64 s1, .int .u64 s2, .int .u64 s3], .int .i64 op, .int .i64 x, .int .i64 y, .int .i64 z] w fun e w' => e = .returned (.bool true) ∧ Below w.heap.size w w' := by
  have d0 : decide (x < 0) = false := decide_eq_false h0
  have d1 : decide (3 < x) = false := decide_eq_false h1
  have d2 : decide (y < 0) = true := decide_eq_true h2
  have C1 : Hid (∀ W : World, Calls Try.prog 12 #[.agg #[.int .u64 r0, .int .u64 r1, .int .u64 r2, .int .u64 r3, .int .i64 t, .int .u64 en, .bool i, .int .u64 a, .int .i64 c, .int .u64 s0, .int .u64 s1, .int .u64 s2, .int .u64 s3], .int .i64 op, .int .i64 x, .int .i64 y, .int .i64 z] W fun e w' => e = .returned (.tuple #[.agg #[.int .u64 r0, .int .u64 r1, .int .u64 r2, .int .u64 r3, .int .i64 t, .int .u64 en, .bool i, .int .u64 a, .int .i64 c, .int .u64 s0, .int .u64 s1, .int .u64 s2, .int .u64 s3], .int .i64 1]) ∧ Below W.heap.size W w') := fun W => reckon_no r0 r1 r2 r3 t en i a c s0 s1 s2 s3 op x y z (by omega) W
  have E : ∀ W : World, (binOp .eql 28 (.agg #[.int .u64 r0, .int .u64 r1, .int .u64 r2, .int .u64 r3, .int .i64 t, .int .u64 en, .bool i, .int .u64 a, .int .i64 c, .int .u64 s0, .int .u64 s1, .int .u64 s2, .int .u64 s3]) (.agg #[.int .u64 r0, .int .u64 r1, .int .u64 r2, .int .u64 r3, .int .i64 t, .int .u64 en, .bool i, .int .u64 a, .int .i64 c, .int .u64 s0, .int .u64 s1, .int .u64 s2, .int .u64 s3])).run Try.prog W = .ok (.bool true) W := fun W => (eqS (St.mk r0 r1 r2 r3 t en i a c s0 s1 s2 s3) (St.mk r0 r1 r2 r3 t en i a c s0 s1 s2 s3) W).trans (by simp)
  have AW : Hid (∀ W : World, Calls Try.prog 8 #[] W fun e w' => e = .returned (.bool true) ∧ Below W.heap.size W w') := fun W => awake_any W
  go_enter Try.func5, Try.ntmps5
  go_wp2_with fail
  refine (C1.out _).mono ?_
  rintro e u1 ⟨rfl, hb⟩
  have B1 : Hid (Below w.heap.size w u1) := below_then (below_new (Below.refl _ _) _) hb
  have Zs1 : Hid (Blk u1 (w.heap.size) [.int .u64 r0, .int .u64 r1, .int .u64 r2, .int .u64 r3, .int .i64 t, .int .u64 en, .bool i, .int .u64 a, .int .i64 c, .int .u64 s0, .int .u64 s1, .int .u64 s2, .int .u64 s3] 28) := Blk.below (Blk.made _ _ _) hb
  clear hb C1
  go_wp2_with fail
  refine (AW.out _).mono ?_
  rintro e u2 ⟨rfl, hb⟩
  have B2 : Hid (Below w.heap.size w u2) := below_then (below_new (B1.out) _) hb
  have Zs2 : Hid (Blk u2 (w.heap.size) [.int .u64 r0, .int .u64 r1, .int .u64 r2, .int .u64 r3, .int .i64 t, .int .u64 en, .bool i, .int .u64 a, .int .i64 c, .int .u64 s0, .int .u64 s1, .int .u64 s2, .int .u64 s3] 28) := (Zs1.out.below (Go.Joins.below_alloc1 _ _)).below hb
  have Zt2 : Hid (Blk u2 (u1.heap.size) [.int .u64 r0, .int .u64 r1, .int .u64 r2, .int .u64 r3, .int .i64 t, .int .u64 en, .bool i, .int .u64 a, .int .i64 c, .int .u64 s0, .int .u64 s1, .int .u64 s2, .int .u64 s3] 28) := Blk.below (Blk.made _ _ _) hb
  clear hb B1 Zs1 AW
  have ls2 : w.heap.size < u2.heap.size := blk_lt Zs2.out
  have cs2_0 : u2.cell? ⟨w.heap.size, 0, none⟩ = some (.int .u64 r0) := Zs2.out.cell 0
  have cs2_1 : u2.cell? ⟨w.heap.size, 1, none⟩ = some (.int .u64 r1) := Zs2.out.cell 1
  have cs2_2 : u2.cell? ⟨w.heap.size, 2, none⟩ = some (.int .u64 r2) := Zs2.out.cell 2
  have cs2_3 : u2.cell? ⟨w.heap.size, 3, none⟩ = some (.int .u64 r3) := Zs2.out.cell 3
  have cs2_4 : u2.cell? ⟨w.heap.size, 4, none⟩ = some (.int .i64 t) := Zs2.out.cell 4
  have cs2_5 : u2.cell? ⟨w.heap.size, 5, none⟩ = some (.int .u64 en) := Zs2.out.cell 5
  have cs2_6 : u2.cell? ⟨w.heap.size, 6, none⟩ = some (.bool i) := Zs2.out.cell 6
  have cs2_7 : u2.cell? ⟨w.heap.size, 7, none⟩ = some (.int .u64 a) := Zs2.out.cell 7
  have cs2_8 : u2.cell? ⟨w.heap.size, 8, none⟩ = some (.int .i64 c) := Zs2.out.cell 8
  have cs2_9 : u2.cell? ⟨w.heap.size, 9, none⟩ = some (.int .u64 s0) := Zs2.out.cell 9
  have cs2_10 : u2.cell? ⟨w.heap.size, 10, none⟩ = some (.int .u64 s1) := Zs2.out.cell 10
  have cs2_11 : u2.cell? ⟨w.heap.size, 11, none⟩ = some (.int .u64 s2) := Zs2.out.cell 11
  have cs2_12 : u2.cell? ⟨w.heap.size, 12, none⟩ = some (.int .u64 s3) := Zs2.out.cell 12
  have lt2 : u1.heap.size < u2.heap.size := blk_lt Zt2.out
  have ct2_0 : u2.cell? ⟨u1.heap.size, 0, none⟩ = some (.int .u64 r0) := Zt2.out.cell 0
  have ct2_1 : u2.cell? ⟨u1.heap.size, 1, none⟩ = some (.int .u64 r1) := Zt2.out.cell 1
  have ct2_2 : u2.cell? ⟨u1.heap.size, 2, none⟩ = some (.int .u64 r2) := Zt2.out.cell 2
  have ct2_3 : u2.cell? ⟨u1.heap.size, 3, none⟩ = some (.int .u64 r3) := Zt2.out.cell 3
  have ct2_4 : u2.cell? ⟨u1.heap.size, 4, none⟩ = some (.int .i64 t) := Zt2.out.cell 4
  have ct2_5 : u2.cell? ⟨u1.heap.size, 5, none⟩ = some (.int .u64 en) := Zt2.out.cell 5
  have ct2_6 : u2.cell? ⟨u1.heap.size, 6, none⟩ = some (.bool i) := Zt2.out.cell 6
  have ct2_7 : u2.cell? ⟨u1.heap.size, 7, none⟩ = some (.int .u64 a) := Zt2.out.cell 7
  have ct2_8 : u2.cell? ⟨u1.heap.size, 8, none⟩ = some (.int .i64 c) := Zt2.out.cell 8
  have ct2_9 : u2.cell? ⟨u1.heap.size, 9, none⟩ = some (.int .u64 s0) := Zt2.out.cell 9
  have ct2_10 : u2.cell? ⟨u1.heap.size, 10, none⟩ = some (.int .u64 s1) := Zt2.out.cell 10
  have ct2_11 : u2.cell? ⟨u1.heap.size, 11, none⟩ = some (.int .u64 s2) := Zt2.out.cell 11
  have ct2_12 : u2.cell? ⟨u1.heap.size, 12, none⟩ = some (.int .u64 s3) := Zt2.out.cell 12
  go_wp2_with fail
  go_ret
  exact ⟨rfl, B2.out⟩
set_option maxHeartbeats 8000000 in
theorem bad3 (r0 r1 r2 r3 t en : Int) (i : Bool) (a c s0 s1 s2 s3 : Int) (op x y z : Int) (h0 : ¬ x < 0) (h1 : ¬ 3 < x) (h2 : ¬ y < 0) (h3 : 3 < y) (w : World) : Calls Try.prog 5 #[.agg #[.int .u64 r0, .int .u64 r1, .int .u64 r2, .int .u64 r3, .int .i64 t, .int .u64 en, .bool i, .int .u64 a, .int .i64 c, .int .u64 s0, .int .u64 s1, .int .u64 s2, .int .u64 s3], .int .i64 op, .int .i64 x, .int .i64 y, .int .i64 z] w fun e w' => e = .returned (.bool true) ∧ Below w.heap.size w w' := by
  have d0 : decide (x < 0) = false := decide_eq_false h0
  have d1 : decide (3 < x) = false := decide_eq_false h1
  have d2 : decide (y < 0) = false := decide_eq_false h2
  have d3 : decide (3 < y) = true := decide_eq_true h3
  have C1 : Hid (∀ W : World, Calls Try.prog 12 #[.agg #[.int .u64 r0, .int .u64 r1, .int .u64 r2, .int .u64 r3, .int .i64 t, .int .u64 en, .bool i, .int .u64 a, .int .i64 c, .int .u64 s0, .int .u64 s1, .int .u64 s2, .int .u64 s3], .int .i64 op, .int .i64 x, .int .i64 y, .int .i64 z] W fun e w' => e = .returned (.tuple #[.agg #[.int .u64 r0, .int .u64 r1, .int .u64 r2, .int .u64 r3, .int .i64 t, .int .u64 en, .bool i, .int .u64 a, .int .i64 c, .int .u64 s0, .int .u64 s1, .int .u64 s2, .int .u64 s3], .int .i64 1]) ∧ Below W.heap.size W w') := fun W => reckon_no r0 r1 r2 r3 t en i a c s0 s1 s2 s3 op x y z (by omega) W
  have E : ∀ W : World, (binOp .eql 28 (.agg #[.int .u64 r0, .int .u64 r1, .int .u64 r2, .int .u64 r3, .int .i64 t, .int .u64 en, .bool i, .int .u64 a, .int .i64 c, .int .u64 s0, .int .u64 s1, .int .u64 s2, .int .u64 s3]) (.agg #[.int .u64 r0, .int .u64 r1, .int .u64 r2, .int .u64 r3, .int .i64 t, .int .u64 en, .bool i, .int .u64 a, .int .i64 c, .int .u64 s0, .int .u64 s1, .int .u64 s2, .int .u64 s3])).run Try.prog W = .ok (.bool true) W := fun W => (eqS (St.mk r0 r1 r2 r3 t en i a c s0 s1 s2 s3) (St.mk r0 r1 r2 r3 t en i a c s0 s1 s2 s3) W).trans (by simp)
  have AW : Hid (∀ W : World, Calls Try.prog 8 #[] W fun e w' => e = .returned (.bool true) ∧ Below W.heap.size W w') := fun W => awake_any W
  go_enter Try.func5, Try.ntmps5
  go_wp2_with fail
  refine (C1.out _).mono ?_
  rintro e u1 ⟨rfl, hb⟩
  have B1 : Hid (Below w.heap.size w u1) := below_then (below_new (Below.refl _ _) _) hb
  have Zs1 : Hid (Blk u1 (w.heap.size) [.int .u64 r0, .int .u64 r1, .int .u64 r2, .int .u64 r3, .int .i64 t, .int .u64 en, .bool i, .int .u64 a, .int .i64 c, .int .u64 s0, .int .u64 s1, .int .u64 s2, .int .u64 s3] 28) := Blk.below (Blk.made _ _ _) hb
  clear hb C1
  go_wp2_with fail
  refine (AW.out _).mono ?_
  rintro e u2 ⟨rfl, hb⟩
  have B2 : Hid (Below w.heap.size w u2) := below_then (below_new (B1.out) _) hb
  have Zs2 : Hid (Blk u2 (w.heap.size) [.int .u64 r0, .int .u64 r1, .int .u64 r2, .int .u64 r3, .int .i64 t, .int .u64 en, .bool i, .int .u64 a, .int .i64 c, .int .u64 s0, .int .u64 s1, .int .u64 s2, .int .u64 s3] 28) := (Zs1.out.below (Go.Joins.below_alloc1 _ _)).below hb
  have Zt2 : Hid (Blk u2 (u1.heap.size) [.int .u64 r0, .int .u64 r1, .int .u64 r2, .int .u64 r3, .int .i64 t, .int .u64 en, .bool i, .int .u64 a, .int .i64 c, .int .u64 s0, .int .u64 s1, .int .u64 s2, .int .u64 s3] 28) := Blk.below (Blk.made _ _ _) hb
  clear hb B1 Zs1 AW
  have ls2 : w.heap.size < u2.heap.size := blk_lt Zs2.out
  have cs2_0 : u2.cell? ⟨w.heap.size, 0, none⟩ = some (.int .u64 r0) := Zs2.out.cell 0
  have cs2_1 : u2.cell? ⟨w.heap.size, 1, none⟩ = some (.int .u64 r1) := Zs2.out.cell 1
  have cs2_2 : u2.cell? ⟨w.heap.size, 2, none⟩ = some (.int .u64 r2) := Zs2.out.cell 2
  have cs2_3 : u2.cell? ⟨w.heap.size, 3, none⟩ = some (.int .u64 r3) := Zs2.out.cell 3
  have cs2_4 : u2.cell? ⟨w.heap.size, 4, none⟩ = some (.int .i64 t) := Zs2.out.cell 4
  have cs2_5 : u2.cell? ⟨w.heap.size, 5, none⟩ = some (.int .u64 en) := Zs2.out.cell 5
  have cs2_6 : u2.cell? ⟨w.heap.size, 6, none⟩ = some (.bool i) := Zs2.out.cell 6
  have cs2_7 : u2.cell? ⟨w.heap.size, 7, none⟩ = some (.int .u64 a) := Zs2.out.cell 7
  have cs2_8 : u2.cell? ⟨w.heap.size, 8, none⟩ = some (.int .i64 c) := Zs2.out.cell 8
  have cs2_9 : u2.cell? ⟨w.heap.size, 9, none⟩ = some (.int .u64 s0) := Zs2.out.cell 9
  have cs2_10 : u2.cell? ⟨w.heap.size, 10, none⟩ = some (.int .u64 s1) := Zs2.out.cell 10
  have cs2_11 : u2.cell? ⟨w.heap.size, 11, none⟩ = some (.int .u64 s2) := Zs2.out.cell 11
  have cs2_12 : u2.cell? ⟨w.heap.size, 12, none⟩ = some (.int .u64 s3) := Zs2.out.cell 12
  have lt2 : u1.heap.size < u2.heap.size := blk_lt Zt2.out
  have ct2_0 : u2.cell? ⟨u1.heap.size, 0, none⟩ = some (.int .u64 r0) := Zt2.out.cell 0
  have ct2_1 : u2.cell? ⟨u1.heap.size, 1, none⟩ = some (.int .u64 r1) := Zt2.out.cell 1
  have ct2_2 : u2.cell? ⟨u1.heap.size, 2, none⟩ = some (.int .u64 r2) := Zt2.out.cell 2
  have ct2_3 : u2.cell? ⟨u1.heap.size, 3, none⟩ = some (.int .u64 r3) := Zt2.out.cell 3
  have ct2_4 : u2.cell? ⟨u1.heap.size, 4, none⟩ = some (.int .i64 t) := Zt2.out.cell 4
  have ct2_5 : u2.cell? ⟨u1.heap.size, 5, none⟩ = some (.int .u64 en) := Zt2.out.cell 5
  have ct2_6 : u2.cell? ⟨u1.heap.size, 6, none⟩ = some (.bool i) := Zt2.out.cell 6
  have ct2_7 : u2.cell? ⟨u1.heap.size, 7, none⟩ = some (.int .u64 a) := Zt2.out.cell 7
  have ct2_8 : u2.cell? ⟨u1.heap.size, 8, none⟩ = some (.int .i64 c) := Zt2.out.cell 8
  have ct2_9 : u2.cell? ⟨u1.heap.size, 9, none⟩ = some (.int .u64 s0) := Zt2.out.cell 9
  have ct2_10 : u2.cell? ⟨u1.heap.size, 10, none⟩ = some (.int .u64 s1) := Zt2.out.cell 10
  have ct2_11 : u2.cell? ⟨u1.heap.size, 11, none⟩ = some (.int .u64 s2) := Zt2.out.cell 11
  have ct2_12 : u2.cell? ⟨u1.heap.size, 12, none⟩ = some (.int .u64 s3) := Zt2.out.cell 12
  go_wp2_with fail
  go_ret
  exact ⟨rfl, B2.out⟩
set_option maxHeartbeats 8000000 in
theorem bad4 (r0 r1 r2 r3 t en : Int) (i : Bool) (a c s0 s1 s2 s3 : Int) (op x y z : Int) (h0 : ¬ x < 0) (h1 : ¬ 3 < x) (h2 : ¬ y < 0) (h3 : ¬ 3 < y) (h4 : z < 0) (w : World) : Calls Try.prog 5 #[.agg #[.int .u64 r0, .int .u64 r1, .int .u64 r2, .int .u64 r3, .int .i64 t, .int .u64 en, .bool i, .int .u64 a, .int .i64 c, .int .u64 s0, .int .u64 s1, .int .u64 s2, .int .u64 s3], .int .i64 op, .int .i64 x, .int .i64 y, .int .i64 z] w fun e w' => e = .returned (.bool true) ∧ Below w.heap.size w w' := by
  have d0 : decide (x < 0) = false := decide_eq_false h0
  have d1 : decide (3 < x) = false := decide_eq_false h1
  have d2 : decide (y < 0) = false := decide_eq_false h2
  have d3 : decide (3 < y) = false := decide_eq_false h3
  have d4 : decide (z < 0) = true := decide_eq_true h4
  have C1 : Hid (∀ W : World, Calls Try.prog 12 #[.agg #[.int .u64 r0, .int .u64 r1, .int .u64 r2, .int .u64 r3, .int .i64 t, .int .u64 en, .bool i, .int .u64 a, .int .i64 c, .int .u64 s0, .int .u64 s1, .int .u64 s2, .int .u64 s3], .int .i64 op, .int .i64 x, .int .i64 y, .int .i64 z] W fun e w' => e = .returned (.tuple #[.agg #[.int .u64 r0, .int .u64 r1, .int .u64 r2, .int .u64 r3, .int .i64 t, .int .u64 en, .bool i, .int .u64 a, .int .i64 c, .int .u64 s0, .int .u64 s1, .int .u64 s2, .int .u64 s3], .int .i64 1]) ∧ Below W.heap.size W w') := fun W => reckon_no r0 r1 r2 r3 t en i a c s0 s1 s2 s3 op x y z (by omega) W
  have E : ∀ W : World, (binOp .eql 28 (.agg #[.int .u64 r0, .int .u64 r1, .int .u64 r2, .int .u64 r3, .int .i64 t, .int .u64 en, .bool i, .int .u64 a, .int .i64 c, .int .u64 s0, .int .u64 s1, .int .u64 s2, .int .u64 s3]) (.agg #[.int .u64 r0, .int .u64 r1, .int .u64 r2, .int .u64 r3, .int .i64 t, .int .u64 en, .bool i, .int .u64 a, .int .i64 c, .int .u64 s0, .int .u64 s1, .int .u64 s2, .int .u64 s3])).run Try.prog W = .ok (.bool true) W := fun W => (eqS (St.mk r0 r1 r2 r3 t en i a c s0 s1 s2 s3) (St.mk r0 r1 r2 r3 t en i a c s0 s1 s2 s3) W).trans (by simp)
  have AW : Hid (∀ W : World, Calls Try.prog 8 #[] W fun e w' => e = .returned (.bool true) ∧ Below W.heap.size W w') := fun W => awake_any W
  go_enter Try.func5, Try.ntmps5
  go_wp2_with fail
  refine (C1.out _).mono ?_
  rintro e u1 ⟨rfl, hb⟩
  have B1 : Hid (Below w.heap.size w u1) := below_then (below_new (Below.refl _ _) _) hb
  have Zs1 : Hid (Blk u1 (w.heap.size) [.int .u64 r0, .int .u64 r1, .int .u64 r2, .int .u64 r3, .int .i64 t, .int .u64 en, .bool i, .int .u64 a, .int .i64 c, .int .u64 s0, .int .u64 s1, .int .u64 s2, .int .u64 s3] 28) := Blk.below (Blk.made _ _ _) hb
  clear hb C1
  go_wp2_with fail
  refine (AW.out _).mono ?_
  rintro e u2 ⟨rfl, hb⟩
  have B2 : Hid (Below w.heap.size w u2) := below_then (below_new (B1.out) _) hb
  have Zs2 : Hid (Blk u2 (w.heap.size) [.int .u64 r0, .int .u64 r1, .int .u64 r2, .int .u64 r3, .int .i64 t, .int .u64 en, .bool i, .int .u64 a, .int .i64 c, .int .u64 s0, .int .u64 s1, .int .u64 s2, .int .u64 s3] 28) := (Zs1.out.below (Go.Joins.below_alloc1 _ _)).below hb
  have Zt2 : Hid (Blk u2 (u1.heap.size) [.int .u64 r0, .int .u64 r1, .int .u64 r2, .int .u64 r3, .int .i64 t, .int .u64 en, .bool i, .int .u64 a, .int .i64 c, .int .u64 s0, .int .u64 s1, .int .u64 s2, .int .u64 s3] 28) := Blk.below (Blk.made _ _ _) hb
  clear hb B1 Zs1 AW
  have ls2 : w.heap.size < u2.heap.size := blk_lt Zs2.out
  have cs2_0 : u2.cell? ⟨w.heap.size, 0, none⟩ = some (.int .u64 r0) := Zs2.out.cell 0
  have cs2_1 : u2.cell? ⟨w.heap.size, 1, none⟩ = some (.int .u64 r1) := Zs2.out.cell 1
  have cs2_2 : u2.cell? ⟨w.heap.size, 2, none⟩ = some (.int .u64 r2) := Zs2.out.cell 2
  have cs2_3 : u2.cell? ⟨w.heap.size, 3, none⟩ = some (.int .u64 r3) := Zs2.out.cell 3
  have cs2_4 : u2.cell? ⟨w.heap.size, 4, none⟩ = some (.int .i64 t) := Zs2.out.cell 4
  have cs2_5 : u2.cell? ⟨w.heap.size, 5, none⟩ = some (.int .u64 en) := Zs2.out.cell 5
  have cs2_6 : u2.cell? ⟨w.heap.size, 6, none⟩ = some (.bool i) := Zs2.out.cell 6
  have cs2_7 : u2.cell? ⟨w.heap.size, 7, none⟩ = some (.int .u64 a) := Zs2.out.cell 7
  have cs2_8 : u2.cell? ⟨w.heap.size, 8, none⟩ = some (.int .i64 c) := Zs2.out.cell 8
  have cs2_9 : u2.cell? ⟨w.heap.size, 9, none⟩ = some (.int .u64 s0) := Zs2.out.cell 9
  have cs2_10 : u2.cell? ⟨w.heap.size, 10, none⟩ = some (.int .u64 s1) := Zs2.out.cell 10
  have cs2_11 : u2.cell? ⟨w.heap.size, 11, none⟩ = some (.int .u64 s2) := Zs2.out.cell 11
  have cs2_12 : u2.cell? ⟨w.heap.size, 12, none⟩ = some (.int .u64 s3) := Zs2.out.cell 12
  have lt2 : u1.heap.size < u2.heap.size := blk_lt Zt2.out
  have ct2_0 : u2.cell? ⟨u1.heap.size, 0, none⟩ = some (.int .u64 r0) := Zt2.out.cell 0
  have ct2_1 : u2.cell? ⟨u1.heap.size, 1, none⟩ = some (.int .u64 r1) := Zt2.out.cell 1
  have ct2_2 : u2.cell? ⟨u1.heap.size, 2, none⟩ = some (.int .u64 r2) := Zt2.out.cell 2
  have ct2_3 : u2.cell? ⟨u1.heap.size, 3, none⟩ = some (.int .u64 r3) := Zt2.out.cell 3
  have ct2_4 : u2.cell? ⟨u1.heap.size, 4, none⟩ = some (.int .i64 t) := Zt2.out.cell 4
  have ct2_5 : u2.cell? ⟨u1.heap.size, 5, none⟩ = some (.int .u64 en) := Zt2.out.cell 5
  have ct2_6 : u2.cell? ⟨u1.heap.size, 6, none⟩ = some (.bool i) := Zt2.out.cell 6
  have ct2_7 : u2.cell? ⟨u1.heap.size, 7, none⟩ = some (.int .u64 a) := Zt2.out.cell 7
  have ct2_8 : u2.cell? ⟨u1.heap.size, 8, none⟩ = some (.int .i64 c) := Zt2.out.cell 8
  have ct2_9 : u2.cell? ⟨u1.heap.size, 9, none⟩ = some (.int .u64 s0) := Zt2.out.cell 9
  have ct2_10 : u2.cell? ⟨u1.heap.size, 10, none⟩ = some (.int .u64 s1) := Zt2.out.cell 10
  have ct2_11 : u2.cell? ⟨u1.heap.size, 11, none⟩ = some (.int .u64 s2) := Zt2.out.cell 11
  have ct2_12 : u2.cell? ⟨u1.heap.size, 12, none⟩ = some (.int .u64 s3) := Zt2.out.cell 12
  go_wp2_with fail
  go_ret
  exact ⟨rfl, B2.out⟩
set_option maxHeartbeats 8000000 in
theorem bad5 (r0 r1 r2 r3 t en : Int) (i : Bool) (a c s0 s1 s2 s3 : Int) (op x y z : Int) (h0 : ¬ x < 0) (h1 : ¬ 3 < x) (h2 : ¬ y < 0) (h3 : ¬ 3 < y) (h4 : ¬ z < 0) (h5 : 3 < z) (w : World) : Calls Try.prog 5 #[.agg #[.int .u64 r0, .int .u64 r1, .int .u64 r2, .int .u64 r3, .int .i64 t, .int .u64 en, .bool i, .int .u64 a, .int .i64 c, .int .u64 s0, .int .u64 s1, .int .u64 s2, .int .u64 s3], .int .i64 op, .int .i64 x, .int .i64 y, .int .i64 z] w fun e w' => e = .returned (.bool true) ∧ Below w.heap.size w w' := by
  have d0 : decide (x < 0) = false := decide_eq_false h0
  have d1 : decide (3 < x) = false := decide_eq_false h1
  have d2 : decide (y < 0) = false := decide_eq_false h2
  have d3 : decide (3 < y) = false := decide_eq_false h3
  have d4 : decide (z < 0) = false := decide_eq_false h4
  have d5 : decide (3 < z) = true := decide_eq_true h5
  have C1 : Hid (∀ W : World, Calls Try.prog 12 #[.agg #[.int .u64 r0, .int .u64 r1, .int .u64 r2, .int .u64 r3, .int .i64 t, .int .u64 en, .bool i, .int .u64 a, .int .i64 c, .int .u64 s0, .int .u64 s1, .int .u64 s2, .int .u64 s3], .int .i64 op, .int .i64 x, .int .i64 y, .int .i64 z] W fun e w' => e = .returned (.tuple #[.agg #[.int .u64 r0, .int .u64 r1, .int .u64 r2, .int .u64 r3, .int .i64 t, .int .u64 en, .bool i, .int .u64 a, .int .i64 c, .int .u64 s0, .int .u64 s1, .int .u64 s2, .int .u64 s3], .int .i64 1]) ∧ Below W.heap.size W w') := fun W => reckon_no r0 r1 r2 r3 t en i a c s0 s1 s2 s3 op x y z (by omega) W
  have E : ∀ W : World, (binOp .eql 28 (.agg #[.int .u64 r0, .int .u64 r1, .int .u64 r2, .int .u64 r3, .int .i64 t, .int .u64 en, .bool i, .int .u64 a, .int .i64 c, .int .u64 s0, .int .u64 s1, .int .u64 s2, .int .u64 s3]) (.agg #[.int .u64 r0, .int .u64 r1, .int .u64 r2, .int .u64 r3, .int .i64 t, .int .u64 en, .bool i, .int .u64 a, .int .i64 c, .int .u64 s0, .int .u64 s1, .int .u64 s2, .int .u64 s3])).run Try.prog W = .ok (.bool true) W := fun W => (eqS (St.mk r0 r1 r2 r3 t en i a c s0 s1 s2 s3) (St.mk r0 r1 r2 r3 t en i a c s0 s1 s2 s3) W).trans (by simp)
  have AW : Hid (∀ W : World, Calls Try.prog 8 #[] W fun e w' => e = .returned (.bool true) ∧ Below W.heap.size W w') := fun W => awake_any W
  go_enter Try.func5, Try.ntmps5
  go_wp2_with fail
  refine (C1.out _).mono ?_
  rintro e u1 ⟨rfl, hb⟩
  have B1 : Hid (Below w.heap.size w u1) := below_then (below_new (Below.refl _ _) _) hb
  have Zs1 : Hid (Blk u1 (w.heap.size) [.int .u64 r0, .int .u64 r1, .int .u64 r2, .int .u64 r3, .int .i64 t, .int .u64 en, .bool i, .int .u64 a, .int .i64 c, .int .u64 s0, .int .u64 s1, .int .u64 s2, .int .u64 s3] 28) := Blk.below (Blk.made _ _ _) hb
  clear hb C1
  go_wp2_with fail
  refine (AW.out _).mono ?_
  rintro e u2 ⟨rfl, hb⟩
  have B2 : Hid (Below w.heap.size w u2) := below_then (below_new (B1.out) _) hb
  have Zs2 : Hid (Blk u2 (w.heap.size) [.int .u64 r0, .int .u64 r1, .int .u64 r2, .int .u64 r3, .int .i64 t, .int .u64 en, .bool i, .int .u64 a, .int .i64 c, .int .u64 s0, .int .u64 s1, .int .u64 s2, .int .u64 s3] 28) := (Zs1.out.below (Go.Joins.below_alloc1 _ _)).below hb
  have Zt2 : Hid (Blk u2 (u1.heap.size) [.int .u64 r0, .int .u64 r1, .int .u64 r2, .int .u64 r3, .int .i64 t, .int .u64 en, .bool i, .int .u64 a, .int .i64 c, .int .u64 s0, .int .u64 s1, .int .u64 s2, .int .u64 s3] 28) := Blk.below (Blk.made _ _ _) hb
  clear hb B1 Zs1 AW
  have ls2 : w.heap.size < u2.heap.size := blk_lt Zs2.out
  have cs2_0 : u2.cell? ⟨w.heap.size, 0, none⟩ = some (.int .u64 r0) := Zs2.out.cell 0
  have cs2_1 : u2.cell? ⟨w.heap.size, 1, none⟩ = some (.int .u64 r1) := Zs2.out.cell 1
  have cs2_2 : u2.cell? ⟨w.heap.size, 2, none⟩ = some (.int .u64 r2) := Zs2.out.cell 2
  have cs2_3 : u2.cell? ⟨w.heap.size, 3, none⟩ = some (.int .u64 r3) := Zs2.out.cell 3
  have cs2_4 : u2.cell? ⟨w.heap.size, 4, none⟩ = some (.int .i64 t) := Zs2.out.cell 4
  have cs2_5 : u2.cell? ⟨w.heap.size, 5, none⟩ = some (.int .u64 en) := Zs2.out.cell 5
  have cs2_6 : u2.cell? ⟨w.heap.size, 6, none⟩ = some (.bool i) := Zs2.out.cell 6
  have cs2_7 : u2.cell? ⟨w.heap.size, 7, none⟩ = some (.int .u64 a) := Zs2.out.cell 7
  have cs2_8 : u2.cell? ⟨w.heap.size, 8, none⟩ = some (.int .i64 c) := Zs2.out.cell 8
  have cs2_9 : u2.cell? ⟨w.heap.size, 9, none⟩ = some (.int .u64 s0) := Zs2.out.cell 9
  have cs2_10 : u2.cell? ⟨w.heap.size, 10, none⟩ = some (.int .u64 s1) := Zs2.out.cell 10
  have cs2_11 : u2.cell? ⟨w.heap.size, 11, none⟩ = some (.int .u64 s2) := Zs2.out.cell 11
  have cs2_12 : u2.cell? ⟨w.heap.size, 12, none⟩ = some (.int .u64 s3) := Zs2.out.cell 12
  have lt2 : u1.heap.size < u2.heap.size := blk_lt Zt2.out
  have ct2_0 : u2.cell? ⟨u1.heap.size, 0, none⟩ = some (.int .u64 r0) := Zt2.out.cell 0
  have ct2_1 : u2.cell? ⟨u1.heap.size, 1, none⟩ = some (.int .u64 r1) := Zt2.out.cell 1
  have ct2_2 : u2.cell? ⟨u1.heap.size, 2, none⟩ = some (.int .u64 r2) := Zt2.out.cell 2
  have ct2_3 : u2.cell? ⟨u1.heap.size, 3, none⟩ = some (.int .u64 r3) := Zt2.out.cell 3
  have ct2_4 : u2.cell? ⟨u1.heap.size, 4, none⟩ = some (.int .i64 t) := Zt2.out.cell 4
  have ct2_5 : u2.cell? ⟨u1.heap.size, 5, none⟩ = some (.int .u64 en) := Zt2.out.cell 5
  have ct2_6 : u2.cell? ⟨u1.heap.size, 6, none⟩ = some (.bool i) := Zt2.out.cell 6
  have ct2_7 : u2.cell? ⟨u1.heap.size, 7, none⟩ = some (.int .u64 a) := Zt2.out.cell 7
  have ct2_8 : u2.cell? ⟨u1.heap.size, 8, none⟩ = some (.int .i64 c) := Zt2.out.cell 8
  have ct2_9 : u2.cell? ⟨u1.heap.size, 9, none⟩ = some (.int .u64 s0) := Zt2.out.cell 9
  have ct2_10 : u2.cell? ⟨u1.heap.size, 10, none⟩ = some (.int .u64 s1) := Zt2.out.cell 10
  have ct2_11 : u2.cell? ⟨u1.heap.size, 11, none⟩ = some (.int .u64 s2) := Zt2.out.cell 11
  have ct2_12 : u2.cell? ⟨u1.heap.size, 12, none⟩ = some (.int .u64 s3) := Zt2.out.cell 12
  go_wp2_with fail
  go_ret
  exact ⟨rfl, B2.out⟩
set_option maxHeartbeats 16000000 in
theorem err (r0 r1 r2 r3 t en : Int) (i : Bool) (a c s0 s1 s2 s3 : Int) (op : Int) (ka kb : Nat) (la : ka < 4) (lb : kb < 4) (z : Int) (hz : 0 ≤ z ∧ z < 4) (ra rb : Int) (hra : [r0, r1, r2, r3][ka]? = some ra) (hrb : [r0, r1, r2, r3][kb]? = some rb) (X X2 : Int) (E : Int) (hE : E ≠ 0)
    (DO : Hid (∀ W : World, Calls Try.prog 13 #[.int .i64 op, .int .u64 ra, .int .u64 rb] W fun e w' => e = .returned (.tuple #[.int .u64 X, .int .i64 X2, .int .i64 E]) ∧ ∃ n, w' = W.drewN n)) (w : World) :
    Calls Try.prog 5 #[.agg #[.int .u64 r0, .int .u64 r1, .int .u64 r2, .int .u64 r3, .int .i64 t, .int .u64 en, .bool i, .int .u64 a, .int .i64 c, .int .u64 s0, .int .u64 s1, .int .u64 s2, .int .u64 s3], .int .i64 op, .int .i64 (ka : Int), .int .i64 (kb : Int), .int .i64 z] w fun e w' => e = .returned (.bool true) ∧ Below w.heap.size w w' := by
  have g : ∀ (k : Nat) (v : Int), k < 4 → [r0, r1, r2, r3][k]? = some v → ([.int .u64 r0, .int .u64 r1, .int .u64 r2, .int .u64 r3, .int .i64 t, .int .u64 en, .bool i, .int .u64 a, .int .i64 c, .int .u64 s0, .int .u64 s1, .int .u64 s2, .int .u64 s3] : List Value)[k]? = some (.int .u64 v) := fun k v hk hv => by
    match k, hk with
    | 0, _ => simp at hv; simp [hv]
    | 1, _ => simp at hv; simp [hv]
    | 2, _ => simp at hv; simp [hv]
    | 3, _ => simp at hv; simp [hv]
  have GA : Hid (([.int .u64 r0, .int .u64 r1, .int .u64 r2, .int .u64 r3, .int .i64 t, .int .u64 en, .bool i, .int .u64 a, .int .i64 c, .int .u64 s0, .int .u64 s1, .int .u64 s2, .int .u64 s3] : List Value)[ka]? = some (.int .u64 ra)) := g ka ra la hra
  have GB : Hid (([.int .u64 r0, .int .u64 r1, .int .u64 r2, .int .u64 r3, .int .i64 t, .int .u64 en, .bool i, .int .u64 a, .int .i64 c, .int .u64 s0, .int .u64 s1, .int .u64 s2, .int .u64 s3] : List Value)[kb]? = some (.int .u64 rb)) := g kb rb lb hrb
  have C1 : Hid (∀ W : World, Calls Try.prog 12 #[.agg #[.int .u64 r0, .int .u64 r1, .int .u64 r2, .int .u64 r3, .int .i64 t, .int .u64 en, .bool i, .int .u64 a, .int .i64 c, .int .u64 s0, .int .u64 s1, .int .u64 s2, .int .u64 s3], .int .i64 op, .int .i64 (ka : Int), .int .i64 (kb : Int), .int .i64 z] W fun e w' => e = .returned (.tuple #[.agg #[.int .u64 r0, .int .u64 r1, .int .u64 r2, .int .u64 r3, .int .i64 t, .int .u64 en, .bool i, .int .u64 a, .int .i64 c, .int .u64 s0, .int .u64 s1, .int .u64 s2, .int .u64 s3], .int .i64 E]) ∧ Below W.heap.size W w') := fun W => reckon_e r0 r1 r2 r3 t en i a c s0 s1 s2 s3 op ka kb la lb z hz ra rb hra hrb X X2 E hE DO W
  clear g hra hrb
  have E1 : ∀ W : World, (binOp .eql 28 (.agg #[.int .u64 r0, .int .u64 r1, .int .u64 r2, .int .u64 r3, .int .i64 t, .int .u64 en, .bool i, .int .u64 a, .int .i64 c, .int .u64 s0, .int .u64 s1, .int .u64 s2, .int .u64 s3]) (.agg #[.int .u64 r0, .int .u64 r1, .int .u64 r2, .int .u64 r3, .int .i64 t, .int .u64 en, .bool i, .int .u64 a, .int .i64 c, .int .u64 s0, .int .u64 s1, .int .u64 s2, .int .u64 s3])).run Try.prog W = .ok (.bool true) W := fun W => (eqS (St.mk r0 r1 r2 r3 t en i a c s0 s1 s2 s3) (St.mk r0 r1 r2 r3 t en i a c s0 s1 s2 s3) W).trans (by simp)
  have AW : Hid (∀ W : World, Calls Try.prog 8 #[] W fun e w' => e = .returned (.bool true) ∧ Below W.heap.size W w') := fun W => awake_any W
  have d1 : decide ((ka : Int) < 0) = false := by simp
  have d2 : decide ((ka : Int) < 4) = true := by simp; omega
  have d3 : decide ((kb : Int) < 0) = false := by simp
  have d4 : decide ((kb : Int) < 4) = true := by simp; omega
  have d5 : decide (3 < (ka : Int)) = false := by simp; omega
  have d6 : decide (3 < (kb : Int)) = false := by simp; omega
  have d7 : decide (z < 0) = false := by simp; omega
  have d8 : decide (3 < z) = false := by simp; omega
  have e0 : (E == 0) = false := by simpa using hE
  have e1 : (E != 0) = true := by simpa using hE
  go_enter Try.func5, Try.ntmps5
  have AL : Hid (Blk (w.alloc (.cells #[.int .u64 r0, .int .u64 r1, .int .u64 r2, .int .u64 r3, .int .i64 t, .int .u64 en, .bool i, .int .u64 a, .int .i64 c, .int .u64 s0, .int .u64 s1, .int .u64 s2, .int .u64 s3] 28)) w.heap.size [.int .u64 r0, .int .u64 r1, .int .u64 r2, .int .u64 r3, .int .i64 t, .int .u64 en, .bool i, .int .u64 a, .int .i64 c, .int .u64 s0, .int .u64 s1, .int .u64 s2, .int .u64 s3] 28) := Blk.made w _ _
  have BL : Hid (Below w.heap.size w (w.alloc (.cells #[.int .u64 r0, .int .u64 r1, .int .u64 r2, .int .u64 r3, .int .i64 t, .int .u64 en, .bool i, .int .u64 a, .int .i64 c, .int .u64 s0, .int .u64 s1, .int .u64 s2, .int .u64 s3] 28))) := Go.Joins.below_alloc1 _ _
  go_upto_region 4 with fail
  generalize w.alloc (.cells #[.int .u64 r0, .int .u64 r1, .int .u64 r2, .int .u64 r3, .int .i64 t, .int .u64 en, .bool i, .int .u64 a, .int .i64 c, .int .u64 s0, .int .u64 s1, .int .u64 s2, .int .u64 s3] 28) = u at AL BL ⊢
  have ca : u.cell? ⟨w.heap.size, ka, none⟩ = some (.int .u64 ra) := (AL.out.cell ka).trans GA.out
  have cb : u.cell? ⟨w.heap.size, kb, none⟩ = some (.int .u64 rb) := (AL.out.cell kb).trans GB.out
  go_quiet ((go_at_call 13; refine Calls.quiet_of (DO.out _)))
  have Zs1 : Hid (Blk (u.drewN nq) w.heap.size [.int .u64 r0, .int .u64 r1, .int .u64 r2, .int .u64 r3, .int .i64 t, .int .u64 en, .bool i, .int .u64 a, .int .i64 c, .int .u64 s0, .int .u64 s1, .int .u64 s2, .int .u64 s3] 28) := AL.out
  have B1 : Hid (Below w.heap.size w (u.drewN nq)) := below_drewN BL.out _
  clear ca cb AL BL
  generalize u.drewN nq = u1 at Zs1 B1 ⊢
  have ls1 : w.heap.size < u1.heap.size := blk_lt Zs1.out
  have cs1_0 : u1.cell? ⟨w.heap.size, 0, none⟩ = some (.int .u64 r0) := Zs1.out.cell 0
  have cs1_1 : u1.cell? ⟨w.heap.size, 1, none⟩ = some (.int .u64 r1) := Zs1.out.cell 1
  have cs1_2 : u1.cell? ⟨w.heap.size, 2, none⟩ = some (.int .u64 r2) := Zs1.out.cell 2
  have cs1_3 : u1.cell? ⟨w.heap.size, 3, none⟩ = some (.int .u64 r3) := Zs1.out.cell 3
  have cs1_4 : u1.cell? ⟨w.heap.size, 4, none⟩ = some (.int .i64 t) := Zs1.out.cell 4
  have cs1_5 : u1.cell? ⟨w.heap.size, 5, none⟩ = some (.int .u64 en) := Zs1.out.cell 5
  have cs1_6 : u1.cell? ⟨w.heap.size, 6, none⟩ = some (.bool i) := Zs1.out.cell 6
  have cs1_7 : u1.cell? ⟨w.heap.size, 7, none⟩ = some (.int .u64 a) := Zs1.out.cell 7
  have cs1_8 : u1.cell? ⟨w.heap.size, 8, none⟩ = some (.int .i64 c) := Zs1.out.cell 8
  have cs1_9 : u1.cell? ⟨w.heap.size, 9, none⟩ = some (.int .u64 s0) := Zs1.out.cell 9
  have cs1_10 : u1.cell? ⟨w.heap.size, 10, none⟩ = some (.int .u64 s1) := Zs1.out.cell 10
  have cs1_11 : u1.cell? ⟨w.heap.size, 11, none⟩ = some (.int .u64 s2) := Zs1.out.cell 11
  have cs1_12 : u1.cell? ⟨w.heap.size, 12, none⟩ = some (.int .u64 s3) := Zs1.out.cell 12
  go_wp2_with fail
  refine (C1.out _).mono ?_
  rintro e u2 ⟨rfl, hb⟩
  have B2 : Hid (Below w.heap.size w u2) := below_then (B1.out) hb
  have Zs2 : Hid (Blk u2 (w.heap.size) [.int .u64 r0, .int .u64 r1, .int .u64 r2, .int .u64 r3, .int .i64 t, .int .u64 en, .bool i, .int .u64 a, .int .i64 c, .int .u64 s0, .int .u64 s1, .int .u64 s2, .int .u64 s3] 28) := Zs1.out.below hb
  clear hb B1 Zs1 C1
  have ls2 : w.heap.size < u2.heap.size := blk_lt Zs2.out
  have cs2_0 : u2.cell? ⟨w.heap.size, 0, none⟩ = some (.int .u64 r0) := Zs2.out.cell 0
  have cs2_1 : u2.cell? ⟨w.heap.size, 1, none⟩ = some (.int .u64 r1) := Zs2.out.cell 1
  have cs2_2 : u2.cell? ⟨w.heap.size, 2, none⟩ = some (.int .u64 r2) := Zs2.out.cell 2
  have cs2_3 : u2.cell? ⟨w.heap.size, 3, none⟩ = some (.int .u64 r3) := Zs2.out.cell 3
  have cs2_4 : u2.cell? ⟨w.heap.size, 4, none⟩ = some (.int .i64 t) := Zs2.out.cell 4
  have cs2_5 : u2.cell? ⟨w.heap.size, 5, none⟩ = some (.int .u64 en) := Zs2.out.cell 5
  have cs2_6 : u2.cell? ⟨w.heap.size, 6, none⟩ = some (.bool i) := Zs2.out.cell 6
  have cs2_7 : u2.cell? ⟨w.heap.size, 7, none⟩ = some (.int .u64 a) := Zs2.out.cell 7
  have cs2_8 : u2.cell? ⟨w.heap.size, 8, none⟩ = some (.int .i64 c) := Zs2.out.cell 8
  have cs2_9 : u2.cell? ⟨w.heap.size, 9, none⟩ = some (.int .u64 s0) := Zs2.out.cell 9
  have cs2_10 : u2.cell? ⟨w.heap.size, 10, none⟩ = some (.int .u64 s1) := Zs2.out.cell 10
  have cs2_11 : u2.cell? ⟨w.heap.size, 11, none⟩ = some (.int .u64 s2) := Zs2.out.cell 11
  have cs2_12 : u2.cell? ⟨w.heap.size, 12, none⟩ = some (.int .u64 s3) := Zs2.out.cell 12
  go_wp2_with fail
  refine (AW.out _).mono ?_
  rintro e u3 ⟨rfl, hb⟩
  have B3 : Hid (Below w.heap.size w u3) := below_then (below_new (B2.out) _) hb
  have Zs3 : Hid (Blk u3 (w.heap.size) [.int .u64 r0, .int .u64 r1, .int .u64 r2, .int .u64 r3, .int .i64 t, .int .u64 en, .bool i, .int .u64 a, .int .i64 c, .int .u64 s0, .int .u64 s1, .int .u64 s2, .int .u64 s3] 28) := (Zs2.out.below (Go.Joins.below_alloc1 _ _)).below hb
  have Zt3 : Hid (Blk u3 (u2.heap.size) [.int .u64 r0, .int .u64 r1, .int .u64 r2, .int .u64 r3, .int .i64 t, .int .u64 en, .bool i, .int .u64 a, .int .i64 c, .int .u64 s0, .int .u64 s1, .int .u64 s2, .int .u64 s3] 28) := Blk.below (Blk.made _ _ _) hb
  clear hb B2 Zs2 AW
  have ls3 : w.heap.size < u3.heap.size := blk_lt Zs3.out
  have cs3_0 : u3.cell? ⟨w.heap.size, 0, none⟩ = some (.int .u64 r0) := Zs3.out.cell 0
  have cs3_1 : u3.cell? ⟨w.heap.size, 1, none⟩ = some (.int .u64 r1) := Zs3.out.cell 1
  have cs3_2 : u3.cell? ⟨w.heap.size, 2, none⟩ = some (.int .u64 r2) := Zs3.out.cell 2
  have cs3_3 : u3.cell? ⟨w.heap.size, 3, none⟩ = some (.int .u64 r3) := Zs3.out.cell 3
  have cs3_4 : u3.cell? ⟨w.heap.size, 4, none⟩ = some (.int .i64 t) := Zs3.out.cell 4
  have cs3_5 : u3.cell? ⟨w.heap.size, 5, none⟩ = some (.int .u64 en) := Zs3.out.cell 5
  have cs3_6 : u3.cell? ⟨w.heap.size, 6, none⟩ = some (.bool i) := Zs3.out.cell 6
  have cs3_7 : u3.cell? ⟨w.heap.size, 7, none⟩ = some (.int .u64 a) := Zs3.out.cell 7
  have cs3_8 : u3.cell? ⟨w.heap.size, 8, none⟩ = some (.int .i64 c) := Zs3.out.cell 8
  have cs3_9 : u3.cell? ⟨w.heap.size, 9, none⟩ = some (.int .u64 s0) := Zs3.out.cell 9
  have cs3_10 : u3.cell? ⟨w.heap.size, 10, none⟩ = some (.int .u64 s1) := Zs3.out.cell 10
  have cs3_11 : u3.cell? ⟨w.heap.size, 11, none⟩ = some (.int .u64 s2) := Zs3.out.cell 11
  have cs3_12 : u3.cell? ⟨w.heap.size, 12, none⟩ = some (.int .u64 s3) := Zs3.out.cell 12
  have lt3 : u2.heap.size < u3.heap.size := blk_lt Zt3.out
  have ct3_0 : u3.cell? ⟨u2.heap.size, 0, none⟩ = some (.int .u64 r0) := Zt3.out.cell 0
  have ct3_1 : u3.cell? ⟨u2.heap.size, 1, none⟩ = some (.int .u64 r1) := Zt3.out.cell 1
  have ct3_2 : u3.cell? ⟨u2.heap.size, 2, none⟩ = some (.int .u64 r2) := Zt3.out.cell 2
  have ct3_3 : u3.cell? ⟨u2.heap.size, 3, none⟩ = some (.int .u64 r3) := Zt3.out.cell 3
  have ct3_4 : u3.cell? ⟨u2.heap.size, 4, none⟩ = some (.int .i64 t) := Zt3.out.cell 4
  have ct3_5 : u3.cell? ⟨u2.heap.size, 5, none⟩ = some (.int .u64 en) := Zt3.out.cell 5
  have ct3_6 : u3.cell? ⟨u2.heap.size, 6, none⟩ = some (.bool i) := Zt3.out.cell 6
  have ct3_7 : u3.cell? ⟨u2.heap.size, 7, none⟩ = some (.int .u64 a) := Zt3.out.cell 7
  have ct3_8 : u3.cell? ⟨u2.heap.size, 8, none⟩ = some (.int .i64 c) := Zt3.out.cell 8
  have ct3_9 : u3.cell? ⟨u2.heap.size, 9, none⟩ = some (.int .u64 s0) := Zt3.out.cell 9
  have ct3_10 : u3.cell? ⟨u2.heap.size, 10, none⟩ = some (.int .u64 s1) := Zt3.out.cell 10
  have ct3_11 : u3.cell? ⟨u2.heap.size, 11, none⟩ = some (.int .u64 s2) := Zt3.out.cell 11
  have ct3_12 : u3.cell? ⟨u2.heap.size, 12, none⟩ = some (.int .u64 s3) := Zt3.out.cell 12
  go_wp2_with fail
  go_ret
  exact ⟨rfl, B3.out⟩
set_option maxHeartbeats 16000000 in
theorem good0 (r0 r1 r2 r3 t en : Int) (i : Bool) (a c s0 s1 s2 s3 : Int) (op : Int) (ka kb : Nat) (la : ka < 4) (lb : kb < 4) (ra rb : Int) (hra : [r0, r1, r2, r3][ka]? = some ra) (hrb : [r0, r1, r2, r3][kb]? = some rb) (X X2 : Int) (O : Int) (hO : bits .or .i64 t X2 = O) (o1 : bits .and .i64 O t = t) (o2 : bits .and .i64 O X2 = X2) (o3 : bits .andNot .i64 O O = 0)
    (DO : Hid (∀ W : World, Calls Try.prog 13 #[.int .i64 op, .int .u64 ra, .int .u64 rb] W fun e w' => e = .returned (.tuple #[.int .u64 X, .int .i64 X2, .int .i64 0]) ∧ ∃ n, w' = W.drewN n)) (w : World) :
    Calls Try.prog 5 #[.agg #[.int .u64 r0, .int .u64 r1, .int .u64 r2, .int .u64 r3, .int .i64 t, .int .u64 en, .bool i, .int .u64 a, .int .i64 c, .int .u64 s0, .int .u64 s1, .int .u64 s2, .int .u64 s3], .int .i64 op, .int .i64 (ka : Int), .int .i64 (kb : Int), .int .i64 0] w fun e w' => e = .returned (.bool true) ∧ Below w.heap.size w w' := by
  have g : ∀ (k : Nat) (v : Int), k < 4 → [r0, r1, r2, r3][k]? = some v → ([.int .u64 r0, .int .u64 r1, .int .u64 r2, .int .u64 r3, .int .i64 t, .int .u64 en, .bool i, .int .u64 a, .int .i64 c, .int .u64 s0, .int .u64 s1, .int .u64 s2, .int .u64 s3] : List Value)[k]? = some (.int .u64 v) := fun k v hk hv => by
    match k, hk with
    | 0, _ => simp at hv; simp [hv]
    | 1, _ => simp at hv; simp [hv]
    | 2, _ => simp at hv; simp [hv]
    | 3, _ => simp at hv; simp [hv]
  have GA : Hid (([.int .u64 r0, .int .u64 r1, .int .u64 r2, .int .u64 r3, .int .i64 t, .int .u64 en, .bool i, .int .u64 a, .int .i64 c, .int .u64 s0, .int .u64 s1, .int .u64 s2, .int .u64 s3] : List Value)[ka]? = some (.int .u64 ra)) := g ka ra la hra
  have GB : Hid (([.int .u64 r0, .int .u64 r1, .int .u64 r2, .int .u64 r3, .int .i64 t, .int .u64 en, .bool i, .int .u64 a, .int .i64 c, .int .u64 s0, .int .u64 s1, .int .u64 s2, .int .u64 s3] : List Value)[kb]? = some (.int .u64 rb)) := g kb rb lb hrb
  have C1 : Hid (∀ W : World, Calls Try.prog 12 #[.agg #[.int .u64 r0, .int .u64 r1, .int .u64 r2, .int .u64 r3, .int .i64 t, .int .u64 en, .bool i, .int .u64 a, .int .i64 c, .int .u64 s0, .int .u64 s1, .int .u64 s2, .int .u64 s3], .int .i64 op, .int .i64 (ka : Int), .int .i64 (kb : Int), .int .i64 0] W fun e w' => e = .returned (.tuple #[.agg #[.int .u64 X, .int .u64 r1, .int .u64 r2, .int .u64 r3, .int .i64 O, .int .u64 en, .bool i, .int .u64 a, .int .i64 c, .int .u64 s0, .int .u64 s1, .int .u64 s2, .int .u64 s3], .int .i64 0]) ∧ Below W.heap.size W w') := fun W => reckon_0 r0 r1 r2 r3 t en i a c s0 s1 s2 s3 op ka kb la lb ra rb hra hrb X X2 O hO DO W
  have C2 : Hid (∀ W : World, Calls Try.prog 14 #[.agg #[.int .u64 r0, .int .u64 r1, .int .u64 r2, .int .u64 r3, .int .i64 t, .int .u64 en, .bool i, .int .u64 a, .int .i64 c, .int .u64 s0, .int .u64 s1, .int .u64 s2, .int .u64 s3], .int .i64 0, .int .u64 X] W fun e w' => e = .returned (.tuple #[.agg #[.int .u64 X, .int .u64 r1, .int .u64 r2, .int .u64 r3, .int .i64 t, .int .u64 en, .bool i, .int .u64 a, .int .i64 c, .int .u64 s0, .int .u64 s1, .int .u64 s2, .int .u64 s3], .int .i64 0]) ∧ Below W.heap.size W w') := fun W => move_0 r0 r1 r2 r3 t en i a c s0 s1 s2 s3 X W
  clear g hra hrb
  have E1 : ∀ W : World, (binOp .eql 28 (.agg #[.int .u64 X, .int .u64 r1, .int .u64 r2, .int .u64 r3, .int .i64 O, .int .u64 en, .bool i, .int .u64 a, .int .i64 c, .int .u64 s0, .int .u64 s1, .int .u64 s2, .int .u64 s3]) (.agg #[.int .u64 X, .int .u64 r1, .int .u64 r2, .int .u64 r3, .int .i64 O, .int .u64 en, .bool i, .int .u64 a, .int .i64 c, .int .u64 s0, .int .u64 s1, .int .u64 s2, .int .u64 s3])).run Try.prog W = .ok (.bool true) W := fun W => (eqS (St.mk X r1 r2 r3 O en i a c s0 s1 s2 s3) (St.mk X r1 r2 r3 O en i a c s0 s1 s2 s3) W).trans (by simp)
  have AW : Hid (∀ W : World, Calls Try.prog 8 #[] W fun e w' => e = .returned (.bool true) ∧ Below W.heap.size W w') := fun W => awake_any W
  have d1 : decide ((ka : Int) < 0) = false := by simp
  have d2 : decide ((ka : Int) < 4) = true := by simp; omega
  have d3 : decide ((kb : Int) < 0) = false := by simp
  have d4 : decide ((kb : Int) < 4) = true := by simp; omega
  have d5 : decide (3 < (ka : Int)) = false := by simp; omega
  have d6 : decide (3 < (kb : Int)) = false := by simp; omega
  go_enter Try.func5, Try.ntmps5
  have AL : Hid (Blk (w.alloc (.cells #[.int .u64 r0, .int .u64 r1, .int .u64 r2, .int .u64 r3, .int .i64 t, .int .u64 en, .bool i, .int .u64 a, .int .i64 c, .int .u64 s0, .int .u64 s1, .int .u64 s2, .int .u64 s3] 28)) w.heap.size [.int .u64 r0, .int .u64 r1, .int .u64 r2, .int .u64 r3, .int .i64 t, .int .u64 en, .bool i, .int .u64 a, .int .i64 c, .int .u64 s0, .int .u64 s1, .int .u64 s2, .int .u64 s3] 28) := Blk.made w _ _
  have BL : Hid (Below w.heap.size w (w.alloc (.cells #[.int .u64 r0, .int .u64 r1, .int .u64 r2, .int .u64 r3, .int .i64 t, .int .u64 en, .bool i, .int .u64 a, .int .i64 c, .int .u64 s0, .int .u64 s1, .int .u64 s2, .int .u64 s3] 28))) := Go.Joins.below_alloc1 _ _
  go_upto_region 4 with fail
  generalize w.alloc (.cells #[.int .u64 r0, .int .u64 r1, .int .u64 r2, .int .u64 r3, .int .i64 t, .int .u64 en, .bool i, .int .u64 a, .int .i64 c, .int .u64 s0, .int .u64 s1, .int .u64 s2, .int .u64 s3] 28) = u at AL BL ⊢
  have ca : u.cell? ⟨w.heap.size, ka, none⟩ = some (.int .u64 ra) := (AL.out.cell ka).trans GA.out
  have cb : u.cell? ⟨w.heap.size, kb, none⟩ = some (.int .u64 rb) := (AL.out.cell kb).trans GB.out
  go_quiet ((go_at_call 13; refine Calls.quiet_of (DO.out _)))
  have Zs1 : Hid (Blk (u.drewN nq) w.heap.size [.int .u64 r0, .int .u64 r1, .int .u64 r2, .int .u64 r3, .int .i64 t, .int .u64 en, .bool i, .int .u64 a, .int .i64 c, .int .u64 s0, .int .u64 s1, .int .u64 s2, .int .u64 s3] 28) := AL.out
  have B1 : Hid (Below w.heap.size w (u.drewN nq)) := below_drewN BL.out _
  clear ca cb AL BL
  generalize u.drewN nq = u1 at Zs1 B1 ⊢
  have ls1 : w.heap.size < u1.heap.size := blk_lt Zs1.out
  have cs1_0 : u1.cell? ⟨w.heap.size, 0, none⟩ = some (.int .u64 r0) := Zs1.out.cell 0
  have cs1_1 : u1.cell? ⟨w.heap.size, 1, none⟩ = some (.int .u64 r1) := Zs1.out.cell 1
  have cs1_2 : u1.cell? ⟨w.heap.size, 2, none⟩ = some (.int .u64 r2) := Zs1.out.cell 2
  have cs1_3 : u1.cell? ⟨w.heap.size, 3, none⟩ = some (.int .u64 r3) := Zs1.out.cell 3
  have cs1_4 : u1.cell? ⟨w.heap.size, 4, none⟩ = some (.int .i64 t) := Zs1.out.cell 4
  have cs1_5 : u1.cell? ⟨w.heap.size, 5, none⟩ = some (.int .u64 en) := Zs1.out.cell 5
  have cs1_6 : u1.cell? ⟨w.heap.size, 6, none⟩ = some (.bool i) := Zs1.out.cell 6
  have cs1_7 : u1.cell? ⟨w.heap.size, 7, none⟩ = some (.int .u64 a) := Zs1.out.cell 7
  have cs1_8 : u1.cell? ⟨w.heap.size, 8, none⟩ = some (.int .i64 c) := Zs1.out.cell 8
  have cs1_9 : u1.cell? ⟨w.heap.size, 9, none⟩ = some (.int .u64 s0) := Zs1.out.cell 9
  have cs1_10 : u1.cell? ⟨w.heap.size, 10, none⟩ = some (.int .u64 s1) := Zs1.out.cell 10
  have cs1_11 : u1.cell? ⟨w.heap.size, 11, none⟩ = some (.int .u64 s2) := Zs1.out.cell 11
  have cs1_12 : u1.cell? ⟨w.heap.size, 12, none⟩ = some (.int .u64 s3) := Zs1.out.cell 12
  go_wp2_with fail
  refine (C1.out _).mono ?_
  rintro e u2 ⟨rfl, hb⟩
  have B2 : Hid (Below w.heap.size w u2) := below_then (B1.out) hb
  have Zs2 : Hid (Blk u2 (w.heap.size) [.int .u64 r0, .int .u64 r1, .int .u64 r2, .int .u64 r3, .int .i64 t, .int .u64 en, .bool i, .int .u64 a, .int .i64 c, .int .u64 s0, .int .u64 s1, .int .u64 s2, .int .u64 s3] 28) := Zs1.out.below hb
  clear hb B1 Zs1 C1
  have ls2 : w.heap.size < u2.heap.size := blk_lt Zs2.out
  have cs2_0 : u2.cell? ⟨w.heap.size, 0, none⟩ = some (.int .u64 r0) := Zs2.out.cell 0
  have cs2_1 : u2.cell? ⟨w.heap.size, 1, none⟩ = some (.int .u64 r1) := Zs2.out.cell 1
  have cs2_2 : u2.cell? ⟨w.heap.size, 2, none⟩ = some (.int .u64 r2) := Zs2.out.cell 2
  have cs2_3 : u2.cell? ⟨w.heap.size, 3, none⟩ = some (.int .u64 r3) := Zs2.out.cell 3
  have cs2_4 : u2.cell? ⟨w.heap.size, 4, none⟩ = some (.int .i64 t) := Zs2.out.cell 4
  have cs2_5 : u2.cell? ⟨w.heap.size, 5, none⟩ = some (.int .u64 en) := Zs2.out.cell 5
  have cs2_6 : u2.cell? ⟨w.heap.size, 6, none⟩ = some (.bool i) := Zs2.out.cell 6
  have cs2_7 : u2.cell? ⟨w.heap.size, 7, none⟩ = some (.int .u64 a) := Zs2.out.cell 7
  have cs2_8 : u2.cell? ⟨w.heap.size, 8, none⟩ = some (.int .i64 c) := Zs2.out.cell 8
  have cs2_9 : u2.cell? ⟨w.heap.size, 9, none⟩ = some (.int .u64 s0) := Zs2.out.cell 9
  have cs2_10 : u2.cell? ⟨w.heap.size, 10, none⟩ = some (.int .u64 s1) := Zs2.out.cell 10
  have cs2_11 : u2.cell? ⟨w.heap.size, 11, none⟩ = some (.int .u64 s2) := Zs2.out.cell 11
  have cs2_12 : u2.cell? ⟨w.heap.size, 12, none⟩ = some (.int .u64 s3) := Zs2.out.cell 12
  go_wp2_with fail
  refine (C2.out _).mono ?_
  rintro e u3 ⟨rfl, hb⟩
  have B3 : Hid (Below w.heap.size w u3) := below_then (below_new (B2.out) _) hb
  have Zs3 : Hid (Blk u3 (w.heap.size) [.int .u64 r0, .int .u64 r1, .int .u64 r2, .int .u64 r3, .int .i64 t, .int .u64 en, .bool i, .int .u64 a, .int .i64 c, .int .u64 s0, .int .u64 s1, .int .u64 s2, .int .u64 s3] 28) := (Zs2.out.below (Go.Joins.below_alloc1 _ _)).below hb
  have Zt3 : Hid (Blk u3 (u2.heap.size) [.int .u64 X, .int .u64 r1, .int .u64 r2, .int .u64 r3, .int .i64 O, .int .u64 en, .bool i, .int .u64 a, .int .i64 c, .int .u64 s0, .int .u64 s1, .int .u64 s2, .int .u64 s3] 28) := Blk.below (Blk.made _ _ _) hb
  clear hb B2 Zs2 C2
  have lt3 : u2.heap.size < u3.heap.size := blk_lt Zt3.out
  have ct3_0 : u3.cell? ⟨u2.heap.size, 0, none⟩ = some (.int .u64 X) := Zt3.out.cell 0
  have ct3_1 : u3.cell? ⟨u2.heap.size, 1, none⟩ = some (.int .u64 r1) := Zt3.out.cell 1
  have ct3_2 : u3.cell? ⟨u2.heap.size, 2, none⟩ = some (.int .u64 r2) := Zt3.out.cell 2
  have ct3_3 : u3.cell? ⟨u2.heap.size, 3, none⟩ = some (.int .u64 r3) := Zt3.out.cell 3
  have ct3_4 : u3.cell? ⟨u2.heap.size, 4, none⟩ = some (.int .i64 O) := Zt3.out.cell 4
  have ct3_5 : u3.cell? ⟨u2.heap.size, 5, none⟩ = some (.int .u64 en) := Zt3.out.cell 5
  have ct3_6 : u3.cell? ⟨u2.heap.size, 6, none⟩ = some (.bool i) := Zt3.out.cell 6
  have ct3_7 : u3.cell? ⟨u2.heap.size, 7, none⟩ = some (.int .u64 a) := Zt3.out.cell 7
  have ct3_8 : u3.cell? ⟨u2.heap.size, 8, none⟩ = some (.int .i64 c) := Zt3.out.cell 8
  have ct3_9 : u3.cell? ⟨u2.heap.size, 9, none⟩ = some (.int .u64 s0) := Zt3.out.cell 9
  have ct3_10 : u3.cell? ⟨u2.heap.size, 10, none⟩ = some (.int .u64 s1) := Zt3.out.cell 10
  have ct3_11 : u3.cell? ⟨u2.heap.size, 11, none⟩ = some (.int .u64 s2) := Zt3.out.cell 11
  have ct3_12 : u3.cell? ⟨u2.heap.size, 12, none⟩ = some (.int .u64 s3) := Zt3.out.cell 12
  go_wp2_with fail
  refine (AW.out _).mono ?_
  rintro e u4 ⟨rfl, hb⟩
  have B4 : Hid (Below w.heap.size w u4) := below_then (below_new (B3.out) _) hb
  have Zs4 : Hid (Blk u4 (w.heap.size) [.int .u64 r0, .int .u64 r1, .int .u64 r2, .int .u64 r3, .int .i64 t, .int .u64 en, .bool i, .int .u64 a, .int .i64 c, .int .u64 s0, .int .u64 s1, .int .u64 s2, .int .u64 s3] 28) := (Zs3.out.below (Go.Joins.below_alloc1 _ _)).below hb
  have Zt4 : Hid (Blk u4 (u2.heap.size) [.int .u64 X, .int .u64 r1, .int .u64 r2, .int .u64 r3, .int .i64 O, .int .u64 en, .bool i, .int .u64 a, .int .i64 c, .int .u64 s0, .int .u64 s1, .int .u64 s2, .int .u64 s3] 28) := (Zt3.out.below (Go.Joins.below_alloc1 _ _)).below hb
  have Zu4 : Hid (Blk u4 (u3.heap.size) [.int .u64 X, .int .u64 r1, .int .u64 r2, .int .u64 r3, .int .i64 O, .int .u64 en, .bool i, .int .u64 a, .int .i64 c, .int .u64 s0, .int .u64 s1, .int .u64 s2, .int .u64 s3] 28) := Blk.below (Blk.made _ _ _) hb
  clear hb B3 Zs3 Zt3 AW
  have ls4 : w.heap.size < u4.heap.size := blk_lt Zs4.out
  have cs4_0 : u4.cell? ⟨w.heap.size, 0, none⟩ = some (.int .u64 r0) := Zs4.out.cell 0
  have cs4_1 : u4.cell? ⟨w.heap.size, 1, none⟩ = some (.int .u64 r1) := Zs4.out.cell 1
  have cs4_2 : u4.cell? ⟨w.heap.size, 2, none⟩ = some (.int .u64 r2) := Zs4.out.cell 2
  have cs4_3 : u4.cell? ⟨w.heap.size, 3, none⟩ = some (.int .u64 r3) := Zs4.out.cell 3
  have cs4_4 : u4.cell? ⟨w.heap.size, 4, none⟩ = some (.int .i64 t) := Zs4.out.cell 4
  have cs4_5 : u4.cell? ⟨w.heap.size, 5, none⟩ = some (.int .u64 en) := Zs4.out.cell 5
  have cs4_6 : u4.cell? ⟨w.heap.size, 6, none⟩ = some (.bool i) := Zs4.out.cell 6
  have cs4_7 : u4.cell? ⟨w.heap.size, 7, none⟩ = some (.int .u64 a) := Zs4.out.cell 7
  have cs4_8 : u4.cell? ⟨w.heap.size, 8, none⟩ = some (.int .i64 c) := Zs4.out.cell 8
  have cs4_9 : u4.cell? ⟨w.heap.size, 9, none⟩ = some (.int .u64 s0) := Zs4.out.cell 9
  have cs4_10 : u4.cell? ⟨w.heap.size, 10, none⟩ = some (.int .u64 s1) := Zs4.out.cell 10
  have cs4_11 : u4.cell? ⟨w.heap.size, 11, none⟩ = some (.int .u64 s2) := Zs4.out.cell 11
  have cs4_12 : u4.cell? ⟨w.heap.size, 12, none⟩ = some (.int .u64 s3) := Zs4.out.cell 12
  have lt4 : u2.heap.size < u4.heap.size := blk_lt Zt4.out
  have ct4_0 : u4.cell? ⟨u2.heap.size, 0, none⟩ = some (.int .u64 X) := Zt4.out.cell 0
  have ct4_1 : u4.cell? ⟨u2.heap.size, 1, none⟩ = some (.int .u64 r1) := Zt4.out.cell 1
  have ct4_2 : u4.cell? ⟨u2.heap.size, 2, none⟩ = some (.int .u64 r2) := Zt4.out.cell 2
  have ct4_3 : u4.cell? ⟨u2.heap.size, 3, none⟩ = some (.int .u64 r3) := Zt4.out.cell 3
  have ct4_4 : u4.cell? ⟨u2.heap.size, 4, none⟩ = some (.int .i64 O) := Zt4.out.cell 4
  have ct4_5 : u4.cell? ⟨u2.heap.size, 5, none⟩ = some (.int .u64 en) := Zt4.out.cell 5
  have ct4_6 : u4.cell? ⟨u2.heap.size, 6, none⟩ = some (.bool i) := Zt4.out.cell 6
  have ct4_7 : u4.cell? ⟨u2.heap.size, 7, none⟩ = some (.int .u64 a) := Zt4.out.cell 7
  have ct4_8 : u4.cell? ⟨u2.heap.size, 8, none⟩ = some (.int .i64 c) := Zt4.out.cell 8
  have ct4_9 : u4.cell? ⟨u2.heap.size, 9, none⟩ = some (.int .u64 s0) := Zt4.out.cell 9
  have ct4_10 : u4.cell? ⟨u2.heap.size, 10, none⟩ = some (.int .u64 s1) := Zt4.out.cell 10
  have ct4_11 : u4.cell? ⟨u2.heap.size, 11, none⟩ = some (.int .u64 s2) := Zt4.out.cell 11
  have ct4_12 : u4.cell? ⟨u2.heap.size, 12, none⟩ = some (.int .u64 s3) := Zt4.out.cell 12
  have lu4 : u3.heap.size < u4.heap.size := blk_lt Zu4.out
  have cu4_0 : u4.cell? ⟨u3.heap.size, 0, none⟩ = some (.int .u64 X) := Zu4.out.cell 0
  have cu4_1 : u4.cell? ⟨u3.heap.size, 1, none⟩ = some (.int .u64 r1) := Zu4.out.cell 1
  have cu4_2 : u4.cell? ⟨u3.heap.size, 2, none⟩ = some (.int .u64 r2) := Zu4.out.cell 2
  have cu4_3 : u4.cell? ⟨u3.heap.size, 3, none⟩ = some (.int .u64 r3) := Zu4.out.cell 3
  have cu4_4 : u4.cell? ⟨u3.heap.size, 4, none⟩ = some (.int .i64 O) := Zu4.out.cell 4
  have cu4_5 : u4.cell? ⟨u3.heap.size, 5, none⟩ = some (.int .u64 en) := Zu4.out.cell 5
  have cu4_6 : u4.cell? ⟨u3.heap.size, 6, none⟩ = some (.bool i) := Zu4.out.cell 6
  have cu4_7 : u4.cell? ⟨u3.heap.size, 7, none⟩ = some (.int .u64 a) := Zu4.out.cell 7
  have cu4_8 : u4.cell? ⟨u3.heap.size, 8, none⟩ = some (.int .i64 c) := Zu4.out.cell 8
  have cu4_9 : u4.cell? ⟨u3.heap.size, 9, none⟩ = some (.int .u64 s0) := Zu4.out.cell 9
  have cu4_10 : u4.cell? ⟨u3.heap.size, 10, none⟩ = some (.int .u64 s1) := Zu4.out.cell 10
  have cu4_11 : u4.cell? ⟨u3.heap.size, 11, none⟩ = some (.int .u64 s2) := Zu4.out.cell 11
  have cu4_12 : u4.cell? ⟨u3.heap.size, 12, none⟩ = some (.int .u64 s3) := Zu4.out.cell 12
  go_wp2_with fail
  go_ret
  exact ⟨rfl, B4.out⟩
set_option maxHeartbeats 16000000 in
theorem good1 (r0 r1 r2 r3 t en : Int) (i : Bool) (a c s0 s1 s2 s3 : Int) (op : Int) (ka kb : Nat) (la : ka < 4) (lb : kb < 4) (ra rb : Int) (hra : [r0, r1, r2, r3][ka]? = some ra) (hrb : [r0, r1, r2, r3][kb]? = some rb) (X X2 : Int) (O : Int) (hO : bits .or .i64 t X2 = O) (o1 : bits .and .i64 O t = t) (o2 : bits .and .i64 O X2 = X2) (o3 : bits .andNot .i64 O O = 0)
    (DO : Hid (∀ W : World, Calls Try.prog 13 #[.int .i64 op, .int .u64 ra, .int .u64 rb] W fun e w' => e = .returned (.tuple #[.int .u64 X, .int .i64 X2, .int .i64 0]) ∧ ∃ n, w' = W.drewN n)) (w : World) :
    Calls Try.prog 5 #[.agg #[.int .u64 r0, .int .u64 r1, .int .u64 r2, .int .u64 r3, .int .i64 t, .int .u64 en, .bool i, .int .u64 a, .int .i64 c, .int .u64 s0, .int .u64 s1, .int .u64 s2, .int .u64 s3], .int .i64 op, .int .i64 (ka : Int), .int .i64 (kb : Int), .int .i64 1] w fun e w' => e = .returned (.bool true) ∧ Below w.heap.size w w' := by
  have g : ∀ (k : Nat) (v : Int), k < 4 → [r0, r1, r2, r3][k]? = some v → ([.int .u64 r0, .int .u64 r1, .int .u64 r2, .int .u64 r3, .int .i64 t, .int .u64 en, .bool i, .int .u64 a, .int .i64 c, .int .u64 s0, .int .u64 s1, .int .u64 s2, .int .u64 s3] : List Value)[k]? = some (.int .u64 v) := fun k v hk hv => by
    match k, hk with
    | 0, _ => simp at hv; simp [hv]
    | 1, _ => simp at hv; simp [hv]
    | 2, _ => simp at hv; simp [hv]
    | 3, _ => simp at hv; simp [hv]
  have GA : Hid (([.int .u64 r0, .int .u64 r1, .int .u64 r2, .int .u64 r3, .int .i64 t, .int .u64 en, .bool i, .int .u64 a, .int .i64 c, .int .u64 s0, .int .u64 s1, .int .u64 s2, .int .u64 s3] : List Value)[ka]? = some (.int .u64 ra)) := g ka ra la hra
  have GB : Hid (([.int .u64 r0, .int .u64 r1, .int .u64 r2, .int .u64 r3, .int .i64 t, .int .u64 en, .bool i, .int .u64 a, .int .i64 c, .int .u64 s0, .int .u64 s1, .int .u64 s2, .int .u64 s3] : List Value)[kb]? = some (.int .u64 rb)) := g kb rb lb hrb
  have C1 : Hid (∀ W : World, Calls Try.prog 12 #[.agg #[.int .u64 r0, .int .u64 r1, .int .u64 r2, .int .u64 r3, .int .i64 t, .int .u64 en, .bool i, .int .u64 a, .int .i64 c, .int .u64 s0, .int .u64 s1, .int .u64 s2, .int .u64 s3], .int .i64 op, .int .i64 (ka : Int), .int .i64 (kb : Int), .int .i64 1] W fun e w' => e = .returned (.tuple #[.agg #[.int .u64 r0, .int .u64 X, .int .u64 r2, .int .u64 r3, .int .i64 O, .int .u64 en, .bool i, .int .u64 a, .int .i64 c, .int .u64 s0, .int .u64 s1, .int .u64 s2, .int .u64 s3], .int .i64 0]) ∧ Below W.heap.size W w') := fun W => reckon_1 r0 r1 r2 r3 t en i a c s0 s1 s2 s3 op ka kb la lb ra rb hra hrb X X2 O hO DO W
  have C2 : Hid (∀ W : World, Calls Try.prog 14 #[.agg #[.int .u64 r0, .int .u64 r1, .int .u64 r2, .int .u64 r3, .int .i64 t, .int .u64 en, .bool i, .int .u64 a, .int .i64 c, .int .u64 s0, .int .u64 s1, .int .u64 s2, .int .u64 s3], .int .i64 1, .int .u64 X] W fun e w' => e = .returned (.tuple #[.agg #[.int .u64 r0, .int .u64 X, .int .u64 r2, .int .u64 r3, .int .i64 t, .int .u64 en, .bool i, .int .u64 a, .int .i64 c, .int .u64 s0, .int .u64 s1, .int .u64 s2, .int .u64 s3], .int .i64 0]) ∧ Below W.heap.size W w') := fun W => move_1 r0 r1 r2 r3 t en i a c s0 s1 s2 s3 X W
  clear g hra hrb
  have E1 : ∀ W : World, (binOp .eql 28 (.agg #[.int .u64 r0, .int .u64 X, .int .u64 r2, .int .u64 r3, .int .i64 O, .int .u64 en, .bool i, .int .u64 a, .int .i64 c, .int .u64 s0, .int .u64 s1, .int .u64 s2, .int .u64 s3]) (.agg #[.int .u64 r0, .int .u64 X, .int .u64 r2, .int .u64 r3, .int .i64 O, .int .u64 en, .bool i, .int .u64 a, .int .i64 c, .int .u64 s0, .int .u64 s1, .int .u64 s2, .int .u64 s3])).run Try.prog W = .ok (.bool true) W := fun W => (eqS (St.mk r0 X r2 r3 O en i a c s0 s1 s2 s3) (St.mk r0 X r2 r3 O en i a c s0 s1 s2 s3) W).trans (by simp)
  have AW : Hid (∀ W : World, Calls Try.prog 8 #[] W fun e w' => e = .returned (.bool true) ∧ Below W.heap.size W w') := fun W => awake_any W
  have d1 : decide ((ka : Int) < 0) = false := by simp
  have d2 : decide ((ka : Int) < 4) = true := by simp; omega
  have d3 : decide ((kb : Int) < 0) = false := by simp
  have d4 : decide ((kb : Int) < 4) = true := by simp; omega
  have d5 : decide (3 < (ka : Int)) = false := by simp; omega
  have d6 : decide (3 < (kb : Int)) = false := by simp; omega
  go_enter Try.func5, Try.ntmps5
  have AL : Hid (Blk (w.alloc (.cells #[.int .u64 r0, .int .u64 r1, .int .u64 r2, .int .u64 r3, .int .i64 t, .int .u64 en, .bool i, .int .u64 a, .int .i64 c, .int .u64 s0, .int .u64 s1, .int .u64 s2, .int .u64 s3] 28)) w.heap.size [.int .u64 r0, .int .u64 r1, .int .u64 r2, .int .u64 r3, .int .i64 t, .int .u64 en, .bool i, .int .u64 a, .int .i64 c, .int .u64 s0, .int .u64 s1, .int .u64 s2, .int .u64 s3] 28) := Blk.made w _ _
  have BL : Hid (Below w.heap.size w (w.alloc (.cells #[.int .u64 r0, .int .u64 r1, .int .u64 r2, .int .u64 r3, .int .i64 t, .int .u64 en, .bool i, .int .u64 a, .int .i64 c, .int .u64 s0, .int .u64 s1, .int .u64 s2, .int .u64 s3] 28))) := Go.Joins.below_alloc1 _ _
  go_upto_region 4 with fail
  generalize w.alloc (.cells #[.int .u64 r0, .int .u64 r1, .int .u64 r2, .int .u64 r3, .int .i64 t, .int .u64 en, .bool i, .int .u64 a, .int .i64 c, .int .u64 s0, .int .u64 s1, .int .u64 s2, .int .u64 s3] 28) = u at AL BL ⊢
  have ca : u.cell? ⟨w.heap.size, ka, none⟩ = some (.int .u64 ra) := (AL.out.cell ka).trans GA.out
  have cb : u.cell? ⟨w.heap.size, kb, none⟩ = some (.int .u64 rb) := (AL.out.cell kb).trans GB.out
  go_quiet ((go_at_call 13; refine Calls.quiet_of (DO.out _)))
  have Zs1 : Hid (Blk (u.drewN nq) w.heap.size [.int .u64 r0, .int .u64 r1, .int .u64 r2, .int .u64 r3, .int .i64 t, .int .u64 en, .bool i, .int .u64 a, .int .i64 c, .int .u64 s0, .int .u64 s1, .int .u64 s2, .int .u64 s3] 28) := AL.out
  have B1 : Hid (Below w.heap.size w (u.drewN nq)) := below_drewN BL.out _
  clear ca cb AL BL
  generalize u.drewN nq = u1 at Zs1 B1 ⊢
  have ls1 : w.heap.size < u1.heap.size := blk_lt Zs1.out
  have cs1_0 : u1.cell? ⟨w.heap.size, 0, none⟩ = some (.int .u64 r0) := Zs1.out.cell 0
  have cs1_1 : u1.cell? ⟨w.heap.size, 1, none⟩ = some (.int .u64 r1) := Zs1.out.cell 1
  have cs1_2 : u1.cell? ⟨w.heap.size, 2, none⟩ = some (.int .u64 r2) := Zs1.out.cell 2
  have cs1_3 : u1.cell? ⟨w.heap.size, 3, none⟩ = some (.int .u64 r3) := Zs1.out.cell 3
  have cs1_4 : u1.cell? ⟨w.heap.size, 4, none⟩ = some (.int .i64 t) := Zs1.out.cell 4
  have cs1_5 : u1.cell? ⟨w.heap.size, 5, none⟩ = some (.int .u64 en) := Zs1.out.cell 5
  have cs1_6 : u1.cell? ⟨w.heap.size, 6, none⟩ = some (.bool i) := Zs1.out.cell 6
  have cs1_7 : u1.cell? ⟨w.heap.size, 7, none⟩ = some (.int .u64 a) := Zs1.out.cell 7
  have cs1_8 : u1.cell? ⟨w.heap.size, 8, none⟩ = some (.int .i64 c) := Zs1.out.cell 8
  have cs1_9 : u1.cell? ⟨w.heap.size, 9, none⟩ = some (.int .u64 s0) := Zs1.out.cell 9
  have cs1_10 : u1.cell? ⟨w.heap.size, 10, none⟩ = some (.int .u64 s1) := Zs1.out.cell 10
  have cs1_11 : u1.cell? ⟨w.heap.size, 11, none⟩ = some (.int .u64 s2) := Zs1.out.cell 11
  have cs1_12 : u1.cell? ⟨w.heap.size, 12, none⟩ = some (.int .u64 s3) := Zs1.out.cell 12
  go_wp2_with fail
  refine (C1.out _).mono ?_
  rintro e u2 ⟨rfl, hb⟩
  have B2 : Hid (Below w.heap.size w u2) := below_then (B1.out) hb
  have Zs2 : Hid (Blk u2 (w.heap.size) [.int .u64 r0, .int .u64 r1, .int .u64 r2, .int .u64 r3, .int .i64 t, .int .u64 en, .bool i, .int .u64 a, .int .i64 c, .int .u64 s0, .int .u64 s1, .int .u64 s2, .int .u64 s3] 28) := Zs1.out.below hb
  clear hb B1 Zs1 C1
  have ls2 : w.heap.size < u2.heap.size := blk_lt Zs2.out
  have cs2_0 : u2.cell? ⟨w.heap.size, 0, none⟩ = some (.int .u64 r0) := Zs2.out.cell 0
  have cs2_1 : u2.cell? ⟨w.heap.size, 1, none⟩ = some (.int .u64 r1) := Zs2.out.cell 1
  have cs2_2 : u2.cell? ⟨w.heap.size, 2, none⟩ = some (.int .u64 r2) := Zs2.out.cell 2
  have cs2_3 : u2.cell? ⟨w.heap.size, 3, none⟩ = some (.int .u64 r3) := Zs2.out.cell 3
  have cs2_4 : u2.cell? ⟨w.heap.size, 4, none⟩ = some (.int .i64 t) := Zs2.out.cell 4
  have cs2_5 : u2.cell? ⟨w.heap.size, 5, none⟩ = some (.int .u64 en) := Zs2.out.cell 5
  have cs2_6 : u2.cell? ⟨w.heap.size, 6, none⟩ = some (.bool i) := Zs2.out.cell 6
  have cs2_7 : u2.cell? ⟨w.heap.size, 7, none⟩ = some (.int .u64 a) := Zs2.out.cell 7
  have cs2_8 : u2.cell? ⟨w.heap.size, 8, none⟩ = some (.int .i64 c) := Zs2.out.cell 8
  have cs2_9 : u2.cell? ⟨w.heap.size, 9, none⟩ = some (.int .u64 s0) := Zs2.out.cell 9
  have cs2_10 : u2.cell? ⟨w.heap.size, 10, none⟩ = some (.int .u64 s1) := Zs2.out.cell 10
  have cs2_11 : u2.cell? ⟨w.heap.size, 11, none⟩ = some (.int .u64 s2) := Zs2.out.cell 11
  have cs2_12 : u2.cell? ⟨w.heap.size, 12, none⟩ = some (.int .u64 s3) := Zs2.out.cell 12
  go_wp2_with fail
  refine (C2.out _).mono ?_
  rintro e u3 ⟨rfl, hb⟩
  have B3 : Hid (Below w.heap.size w u3) := below_then (below_new (B2.out) _) hb
  have Zs3 : Hid (Blk u3 (w.heap.size) [.int .u64 r0, .int .u64 r1, .int .u64 r2, .int .u64 r3, .int .i64 t, .int .u64 en, .bool i, .int .u64 a, .int .i64 c, .int .u64 s0, .int .u64 s1, .int .u64 s2, .int .u64 s3] 28) := (Zs2.out.below (Go.Joins.below_alloc1 _ _)).below hb
  have Zt3 : Hid (Blk u3 (u2.heap.size) [.int .u64 r0, .int .u64 X, .int .u64 r2, .int .u64 r3, .int .i64 O, .int .u64 en, .bool i, .int .u64 a, .int .i64 c, .int .u64 s0, .int .u64 s1, .int .u64 s2, .int .u64 s3] 28) := Blk.below (Blk.made _ _ _) hb
  clear hb B2 Zs2 C2
  have lt3 : u2.heap.size < u3.heap.size := blk_lt Zt3.out
  have ct3_0 : u3.cell? ⟨u2.heap.size, 0, none⟩ = some (.int .u64 r0) := Zt3.out.cell 0
  have ct3_1 : u3.cell? ⟨u2.heap.size, 1, none⟩ = some (.int .u64 X) := Zt3.out.cell 1
  have ct3_2 : u3.cell? ⟨u2.heap.size, 2, none⟩ = some (.int .u64 r2) := Zt3.out.cell 2
  have ct3_3 : u3.cell? ⟨u2.heap.size, 3, none⟩ = some (.int .u64 r3) := Zt3.out.cell 3
  have ct3_4 : u3.cell? ⟨u2.heap.size, 4, none⟩ = some (.int .i64 O) := Zt3.out.cell 4
  have ct3_5 : u3.cell? ⟨u2.heap.size, 5, none⟩ = some (.int .u64 en) := Zt3.out.cell 5
  have ct3_6 : u3.cell? ⟨u2.heap.size, 6, none⟩ = some (.bool i) := Zt3.out.cell 6
  have ct3_7 : u3.cell? ⟨u2.heap.size, 7, none⟩ = some (.int .u64 a) := Zt3.out.cell 7
  have ct3_8 : u3.cell? ⟨u2.heap.size, 8, none⟩ = some (.int .i64 c) := Zt3.out.cell 8
  have ct3_9 : u3.cell? ⟨u2.heap.size, 9, none⟩ = some (.int .u64 s0) := Zt3.out.cell 9
  have ct3_10 : u3.cell? ⟨u2.heap.size, 10, none⟩ = some (.int .u64 s1) := Zt3.out.cell 10
  have ct3_11 : u3.cell? ⟨u2.heap.size, 11, none⟩ = some (.int .u64 s2) := Zt3.out.cell 11
  have ct3_12 : u3.cell? ⟨u2.heap.size, 12, none⟩ = some (.int .u64 s3) := Zt3.out.cell 12
  go_wp2_with fail
  refine (AW.out _).mono ?_
  rintro e u4 ⟨rfl, hb⟩
  have B4 : Hid (Below w.heap.size w u4) := below_then (below_new (B3.out) _) hb
  have Zs4 : Hid (Blk u4 (w.heap.size) [.int .u64 r0, .int .u64 r1, .int .u64 r2, .int .u64 r3, .int .i64 t, .int .u64 en, .bool i, .int .u64 a, .int .i64 c, .int .u64 s0, .int .u64 s1, .int .u64 s2, .int .u64 s3] 28) := (Zs3.out.below (Go.Joins.below_alloc1 _ _)).below hb
  have Zt4 : Hid (Blk u4 (u2.heap.size) [.int .u64 r0, .int .u64 X, .int .u64 r2, .int .u64 r3, .int .i64 O, .int .u64 en, .bool i, .int .u64 a, .int .i64 c, .int .u64 s0, .int .u64 s1, .int .u64 s2, .int .u64 s3] 28) := (Zt3.out.below (Go.Joins.below_alloc1 _ _)).below hb
  have Zu4 : Hid (Blk u4 (u3.heap.size) [.int .u64 r0, .int .u64 X, .int .u64 r2, .int .u64 r3, .int .i64 O, .int .u64 en, .bool i, .int .u64 a, .int .i64 c, .int .u64 s0, .int .u64 s1, .int .u64 s2, .int .u64 s3] 28) := Blk.below (Blk.made _ _ _) hb
  clear hb B3 Zs3 Zt3 AW
  have ls4 : w.heap.size < u4.heap.size := blk_lt Zs4.out
  have cs4_0 : u4.cell? ⟨w.heap.size, 0, none⟩ = some (.int .u64 r0) := Zs4.out.cell 0
  have cs4_1 : u4.cell? ⟨w.heap.size, 1, none⟩ = some (.int .u64 r1) := Zs4.out.cell 1
  have cs4_2 : u4.cell? ⟨w.heap.size, 2, none⟩ = some (.int .u64 r2) := Zs4.out.cell 2
  have cs4_3 : u4.cell? ⟨w.heap.size, 3, none⟩ = some (.int .u64 r3) := Zs4.out.cell 3
  have cs4_4 : u4.cell? ⟨w.heap.size, 4, none⟩ = some (.int .i64 t) := Zs4.out.cell 4
  have cs4_5 : u4.cell? ⟨w.heap.size, 5, none⟩ = some (.int .u64 en) := Zs4.out.cell 5
  have cs4_6 : u4.cell? ⟨w.heap.size, 6, none⟩ = some (.bool i) := Zs4.out.cell 6
  have cs4_7 : u4.cell? ⟨w.heap.size, 7, none⟩ = some (.int .u64 a) := Zs4.out.cell 7
  have cs4_8 : u4.cell? ⟨w.heap.size, 8, none⟩ = some (.int .i64 c) := Zs4.out.cell 8
  have cs4_9 : u4.cell? ⟨w.heap.size, 9, none⟩ = some (.int .u64 s0) := Zs4.out.cell 9
  have cs4_10 : u4.cell? ⟨w.heap.size, 10, none⟩ = some (.int .u64 s1) := Zs4.out.cell 10
  have cs4_11 : u4.cell? ⟨w.heap.size, 11, none⟩ = some (.int .u64 s2) := Zs4.out.cell 11
  have cs4_12 : u4.cell? ⟨w.heap.size, 12, none⟩ = some (.int .u64 s3) := Zs4.out.cell 12
  have lt4 : u2.heap.size < u4.heap.size := blk_lt Zt4.out
  have ct4_0 : u4.cell? ⟨u2.heap.size, 0, none⟩ = some (.int .u64 r0) := Zt4.out.cell 0
  have ct4_1 : u4.cell? ⟨u2.heap.size, 1, none⟩ = some (.int .u64 X) := Zt4.out.cell 1
  have ct4_2 : u4.cell? ⟨u2.heap.size, 2, none⟩ = some (.int .u64 r2) := Zt4.out.cell 2
  have ct4_3 : u4.cell? ⟨u2.heap.size, 3, none⟩ = some (.int .u64 r3) := Zt4.out.cell 3
  have ct4_4 : u4.cell? ⟨u2.heap.size, 4, none⟩ = some (.int .i64 O) := Zt4.out.cell 4
  have ct4_5 : u4.cell? ⟨u2.heap.size, 5, none⟩ = some (.int .u64 en) := Zt4.out.cell 5
  have ct4_6 : u4.cell? ⟨u2.heap.size, 6, none⟩ = some (.bool i) := Zt4.out.cell 6
  have ct4_7 : u4.cell? ⟨u2.heap.size, 7, none⟩ = some (.int .u64 a) := Zt4.out.cell 7
  have ct4_8 : u4.cell? ⟨u2.heap.size, 8, none⟩ = some (.int .i64 c) := Zt4.out.cell 8
  have ct4_9 : u4.cell? ⟨u2.heap.size, 9, none⟩ = some (.int .u64 s0) := Zt4.out.cell 9
  have ct4_10 : u4.cell? ⟨u2.heap.size, 10, none⟩ = some (.int .u64 s1) := Zt4.out.cell 10
  have ct4_11 : u4.cell? ⟨u2.heap.size, 11, none⟩ = some (.int .u64 s2) := Zt4.out.cell 11
  have ct4_12 : u4.cell? ⟨u2.heap.size, 12, none⟩ = some (.int .u64 s3) := Zt4.out.cell 12
  have lu4 : u3.heap.size < u4.heap.size := blk_lt Zu4.out
  have cu4_0 : u4.cell? ⟨u3.heap.size, 0, none⟩ = some (.int .u64 r0) := Zu4.out.cell 0
  have cu4_1 : u4.cell? ⟨u3.heap.size, 1, none⟩ = some (.int .u64 X) := Zu4.out.cell 1
  have cu4_2 : u4.cell? ⟨u3.heap.size, 2, none⟩ = some (.int .u64 r2) := Zu4.out.cell 2
  have cu4_3 : u4.cell? ⟨u3.heap.size, 3, none⟩ = some (.int .u64 r3) := Zu4.out.cell 3
  have cu4_4 : u4.cell? ⟨u3.heap.size, 4, none⟩ = some (.int .i64 O) := Zu4.out.cell 4
  have cu4_5 : u4.cell? ⟨u3.heap.size, 5, none⟩ = some (.int .u64 en) := Zu4.out.cell 5
  have cu4_6 : u4.cell? ⟨u3.heap.size, 6, none⟩ = some (.bool i) := Zu4.out.cell 6
  have cu4_7 : u4.cell? ⟨u3.heap.size, 7, none⟩ = some (.int .u64 a) := Zu4.out.cell 7
  have cu4_8 : u4.cell? ⟨u3.heap.size, 8, none⟩ = some (.int .i64 c) := Zu4.out.cell 8
  have cu4_9 : u4.cell? ⟨u3.heap.size, 9, none⟩ = some (.int .u64 s0) := Zu4.out.cell 9
  have cu4_10 : u4.cell? ⟨u3.heap.size, 10, none⟩ = some (.int .u64 s1) := Zu4.out.cell 10
  have cu4_11 : u4.cell? ⟨u3.heap.size, 11, none⟩ = some (.int .u64 s2) := Zu4.out.cell 11
  have cu4_12 : u4.cell? ⟨u3.heap.size, 12, none⟩ = some (.int .u64 s3) := Zu4.out.cell 12
  go_wp2_with fail
  go_ret
  exact ⟨rfl, B4.out⟩
set_option maxHeartbeats 16000000 in
theorem good2 (r0 r1 r2 r3 t en : Int) (i : Bool) (a c s0 s1 s2 s3 : Int) (op : Int) (ka kb : Nat) (la : ka < 4) (lb : kb < 4) (ra rb : Int) (hra : [r0, r1, r2, r3][ka]? = some ra) (hrb : [r0, r1, r2, r3][kb]? = some rb) (X X2 : Int) (O : Int) (hO : bits .or .i64 t X2 = O) (o1 : bits .and .i64 O t = t) (o2 : bits .and .i64 O X2 = X2) (o3 : bits .andNot .i64 O O = 0)
    (DO : Hid (∀ W : World, Calls Try.prog 13 #[.int .i64 op, .int .u64 ra, .int .u64 rb] W fun e w' => e = .returned (.tuple #[.int .u64 X, .int .i64 X2, .int .i64 0]) ∧ ∃ n, w' = W.drewN n)) (w : World) :
    Calls Try.prog 5 #[.agg #[.int .u64 r0, .int .u64 r1, .int .u64 r2, .int .u64 r3, .int .i64 t, .int .u64 en, .bool i, .int .u64 a, .int .i64 c, .int .u64 s0, .int .u64 s1, .int .u64 s2, .int .u64 s3], .int .i64 op, .int .i64 (ka : Int), .int .i64 (kb : Int), .int .i64 2] w fun e w' => e = .returned (.bool true) ∧ Below w.heap.size w w' := by
  have g : ∀ (k : Nat) (v : Int), k < 4 → [r0, r1, r2, r3][k]? = some v → ([.int .u64 r0, .int .u64 r1, .int .u64 r2, .int .u64 r3, .int .i64 t, .int .u64 en, .bool i, .int .u64 a, .int .i64 c, .int .u64 s0, .int .u64 s1, .int .u64 s2, .int .u64 s3] : List Value)[k]? = some (.int .u64 v) := fun k v hk hv => by
    match k, hk with
    | 0, _ => simp at hv; simp [hv]
    | 1, _ => simp at hv; simp [hv]
    | 2, _ => simp at hv; simp [hv]
    | 3, _ => simp at hv; simp [hv]
  have GA : Hid (([.int .u64 r0, .int .u64 r1, .int .u64 r2, .int .u64 r3, .int .i64 t, .int .u64 en, .bool i, .int .u64 a, .int .i64 c, .int .u64 s0, .int .u64 s1, .int .u64 s2, .int .u64 s3] : List Value)[ka]? = some (.int .u64 ra)) := g ka ra la hra
  have GB : Hid (([.int .u64 r0, .int .u64 r1, .int .u64 r2, .int .u64 r3, .int .i64 t, .int .u64 en, .bool i, .int .u64 a, .int .i64 c, .int .u64 s0, .int .u64 s1, .int .u64 s2, .int .u64 s3] : List Value)[kb]? = some (.int .u64 rb)) := g kb rb lb hrb
  have C1 : Hid (∀ W : World, Calls Try.prog 12 #[.agg #[.int .u64 r0, .int .u64 r1, .int .u64 r2, .int .u64 r3, .int .i64 t, .int .u64 en, .bool i, .int .u64 a, .int .i64 c, .int .u64 s0, .int .u64 s1, .int .u64 s2, .int .u64 s3], .int .i64 op, .int .i64 (ka : Int), .int .i64 (kb : Int), .int .i64 2] W fun e w' => e = .returned (.tuple #[.agg #[.int .u64 r0, .int .u64 r1, .int .u64 X, .int .u64 r3, .int .i64 O, .int .u64 en, .bool i, .int .u64 a, .int .i64 c, .int .u64 s0, .int .u64 s1, .int .u64 s2, .int .u64 s3], .int .i64 0]) ∧ Below W.heap.size W w') := fun W => reckon_2 r0 r1 r2 r3 t en i a c s0 s1 s2 s3 op ka kb la lb ra rb hra hrb X X2 O hO DO W
  have C2 : Hid (∀ W : World, Calls Try.prog 14 #[.agg #[.int .u64 r0, .int .u64 r1, .int .u64 r2, .int .u64 r3, .int .i64 t, .int .u64 en, .bool i, .int .u64 a, .int .i64 c, .int .u64 s0, .int .u64 s1, .int .u64 s2, .int .u64 s3], .int .i64 2, .int .u64 X] W fun e w' => e = .returned (.tuple #[.agg #[.int .u64 r0, .int .u64 r1, .int .u64 X, .int .u64 r3, .int .i64 t, .int .u64 en, .bool i, .int .u64 a, .int .i64 c, .int .u64 s0, .int .u64 s1, .int .u64 s2, .int .u64 s3], .int .i64 0]) ∧ Below W.heap.size W w') := fun W => move_2 r0 r1 r2 r3 t en i a c s0 s1 s2 s3 X W
  clear g hra hrb
  have E1 : ∀ W : World, (binOp .eql 28 (.agg #[.int .u64 r0, .int .u64 r1, .int .u64 X, .int .u64 r3, .int .i64 O, .int .u64 en, .bool i, .int .u64 a, .int .i64 c, .int .u64 s0, .int .u64 s1, .int .u64 s2, .int .u64 s3]) (.agg #[.int .u64 r0, .int .u64 r1, .int .u64 X, .int .u64 r3, .int .i64 O, .int .u64 en, .bool i, .int .u64 a, .int .i64 c, .int .u64 s0, .int .u64 s1, .int .u64 s2, .int .u64 s3])).run Try.prog W = .ok (.bool true) W := fun W => (eqS (St.mk r0 r1 X r3 O en i a c s0 s1 s2 s3) (St.mk r0 r1 X r3 O en i a c s0 s1 s2 s3) W).trans (by simp)
  have AW : Hid (∀ W : World, Calls Try.prog 8 #[] W fun e w' => e = .returned (.bool true) ∧ Below W.heap.size W w') := fun W => awake_any W
  have d1 : decide ((ka : Int) < 0) = false := by simp
  have d2 : decide ((ka : Int) < 4) = true := by simp; omega
  have d3 : decide ((kb : Int) < 0) = false := by simp
  have d4 : decide ((kb : Int) < 4) = true := by simp; omega
  have d5 : decide (3 < (ka : Int)) = false := by simp; omega
  have d6 : decide (3 < (kb : Int)) = false := by simp; omega
  go_enter Try.func5, Try.ntmps5
  have AL : Hid (Blk (w.alloc (.cells #[.int .u64 r0, .int .u64 r1, .int .u64 r2, .int .u64 r3, .int .i64 t, .int .u64 en, .bool i, .int .u64 a, .int .i64 c, .int .u64 s0, .int .u64 s1, .int .u64 s2, .int .u64 s3] 28)) w.heap.size [.int .u64 r0, .int .u64 r1, .int .u64 r2, .int .u64 r3, .int .i64 t, .int .u64 en, .bool i, .int .u64 a, .int .i64 c, .int .u64 s0, .int .u64 s1, .int .u64 s2, .int .u64 s3] 28) := Blk.made w _ _
  have BL : Hid (Below w.heap.size w (w.alloc (.cells #[.int .u64 r0, .int .u64 r1, .int .u64 r2, .int .u64 r3, .int .i64 t, .int .u64 en, .bool i, .int .u64 a, .int .i64 c, .int .u64 s0, .int .u64 s1, .int .u64 s2, .int .u64 s3] 28))) := Go.Joins.below_alloc1 _ _
  go_upto_region 4 with fail
  generalize w.alloc (.cells #[.int .u64 r0, .int .u64 r1, .int .u64 r2, .int .u64 r3, .int .i64 t, .int .u64 en, .bool i, .int .u64 a, .int .i64 c, .int .u64 s0, .int .u64 s1, .int .u64 s2, .int .u64 s3] 28) = u at AL BL ⊢
  have ca : u.cell? ⟨w.heap.size, ka, none⟩ = some (.int .u64 ra) := (AL.out.cell ka).trans GA.out
  have cb : u.cell? ⟨w.heap.size, kb, none⟩ = some (.int .u64 rb) := (AL.out.cell kb).trans GB.out
  go_quiet ((go_at_call 13; refine Calls.quiet_of (DO.out _)))
  have Zs1 : Hid (Blk (u.drewN nq) w.heap.size [.int .u64 r0, .int .u64 r1, .int .u64 r2, .int .u64 r3, .int .i64 t, .int .u64 en, .bool i, .int .u64 a, .int .i64 c, .int .u64 s0, .int .u64 s1, .int .u64 s2, .int .u64 s3] 28) := AL.out
  have B1 : Hid (Below w.heap.size w (u.drewN nq)) := below_drewN BL.out _
  clear ca cb AL BL
  generalize u.drewN nq = u1 at Zs1 B1 ⊢
  have ls1 : w.heap.size < u1.heap.size := blk_lt Zs1.out
  have cs1_0 : u1.cell? ⟨w.heap.size, 0, none⟩ = some (.int .u64 r0) := Zs1.out.cell 0
  have cs1_1 : u1.cell? ⟨w.heap.size, 1, none⟩ = some (.int .u64 r1) := Zs1.out.cell 1
  have cs1_2 : u1.cell? ⟨w.heap.size, 2, none⟩ = some (.int .u64 r2) := Zs1.out.cell 2
  have cs1_3 : u1.cell? ⟨w.heap.size, 3, none⟩ = some (.int .u64 r3) := Zs1.out.cell 3
  have cs1_4 : u1.cell? ⟨w.heap.size, 4, none⟩ = some (.int .i64 t) := Zs1.out.cell 4
  have cs1_5 : u1.cell? ⟨w.heap.size, 5, none⟩ = some (.int .u64 en) := Zs1.out.cell 5
  have cs1_6 : u1.cell? ⟨w.heap.size, 6, none⟩ = some (.bool i) := Zs1.out.cell 6
  have cs1_7 : u1.cell? ⟨w.heap.size, 7, none⟩ = some (.int .u64 a) := Zs1.out.cell 7
  have cs1_8 : u1.cell? ⟨w.heap.size, 8, none⟩ = some (.int .i64 c) := Zs1.out.cell 8
  have cs1_9 : u1.cell? ⟨w.heap.size, 9, none⟩ = some (.int .u64 s0) := Zs1.out.cell 9
  have cs1_10 : u1.cell? ⟨w.heap.size, 10, none⟩ = some (.int .u64 s1) := Zs1.out.cell 10
  have cs1_11 : u1.cell? ⟨w.heap.size, 11, none⟩ = some (.int .u64 s2) := Zs1.out.cell 11
  have cs1_12 : u1.cell? ⟨w.heap.size, 12, none⟩ = some (.int .u64 s3) := Zs1.out.cell 12
  go_wp2_with fail
  refine (C1.out _).mono ?_
  rintro e u2 ⟨rfl, hb⟩
  have B2 : Hid (Below w.heap.size w u2) := below_then (B1.out) hb
  have Zs2 : Hid (Blk u2 (w.heap.size) [.int .u64 r0, .int .u64 r1, .int .u64 r2, .int .u64 r3, .int .i64 t, .int .u64 en, .bool i, .int .u64 a, .int .i64 c, .int .u64 s0, .int .u64 s1, .int .u64 s2, .int .u64 s3] 28) := Zs1.out.below hb
  clear hb B1 Zs1 C1
  have ls2 : w.heap.size < u2.heap.size := blk_lt Zs2.out
  have cs2_0 : u2.cell? ⟨w.heap.size, 0, none⟩ = some (.int .u64 r0) := Zs2.out.cell 0
  have cs2_1 : u2.cell? ⟨w.heap.size, 1, none⟩ = some (.int .u64 r1) := Zs2.out.cell 1
  have cs2_2 : u2.cell? ⟨w.heap.size, 2, none⟩ = some (.int .u64 r2) := Zs2.out.cell 2
  have cs2_3 : u2.cell? ⟨w.heap.size, 3, none⟩ = some (.int .u64 r3) := Zs2.out.cell 3
  have cs2_4 : u2.cell? ⟨w.heap.size, 4, none⟩ = some (.int .i64 t) := Zs2.out.cell 4
  have cs2_5 : u2.cell? ⟨w.heap.size, 5, none⟩ = some (.int .u64 en) := Zs2.out.cell 5
  have cs2_6 : u2.cell? ⟨w.heap.size, 6, none⟩ = some (.bool i) := Zs2.out.cell 6
  have cs2_7 : u2.cell? ⟨w.heap.size, 7, none⟩ = some (.int .u64 a) := Zs2.out.cell 7
  have cs2_8 : u2.cell? ⟨w.heap.size, 8, none⟩ = some (.int .i64 c) := Zs2.out.cell 8
  have cs2_9 : u2.cell? ⟨w.heap.size, 9, none⟩ = some (.int .u64 s0) := Zs2.out.cell 9
  have cs2_10 : u2.cell? ⟨w.heap.size, 10, none⟩ = some (.int .u64 s1) := Zs2.out.cell 10
  have cs2_11 : u2.cell? ⟨w.heap.size, 11, none⟩ = some (.int .u64 s2) := Zs2.out.cell 11
  have cs2_12 : u2.cell? ⟨w.heap.size, 12, none⟩ = some (.int .u64 s3) := Zs2.out.cell 12
  go_wp2_with fail
  refine (C2.out _).mono ?_
  rintro e u3 ⟨rfl, hb⟩
  have B3 : Hid (Below w.heap.size w u3) := below_then (below_new (B2.out) _) hb
  have Zs3 : Hid (Blk u3 (w.heap.size) [.int .u64 r0, .int .u64 r1, .int .u64 r2, .int .u64 r3, .int .i64 t, .int .u64 en, .bool i, .int .u64 a, .int .i64 c, .int .u64 s0, .int .u64 s1, .int .u64 s2, .int .u64 s3] 28) := (Zs2.out.below (Go.Joins.below_alloc1 _ _)).below hb
  have Zt3 : Hid (Blk u3 (u2.heap.size) [.int .u64 r0, .int .u64 r1, .int .u64 X, .int .u64 r3, .int .i64 O, .int .u64 en, .bool i, .int .u64 a, .int .i64 c, .int .u64 s0, .int .u64 s1, .int .u64 s2, .int .u64 s3] 28) := Blk.below (Blk.made _ _ _) hb
  clear hb B2 Zs2 C2
  have lt3 : u2.heap.size < u3.heap.size := blk_lt Zt3.out
  have ct3_0 : u3.cell? ⟨u2.heap.size, 0, none⟩ = some (.int .u64 r0) := Zt3.out.cell 0
  have ct3_1 : u3.cell? ⟨u2.heap.size, 1, none⟩ = some (.int .u64 r1) := Zt3.out.cell 1
  have ct3_2 : u3.cell? ⟨u2.heap.size, 2, none⟩ = some (.int .u64 X) := Zt3.out.cell 2
  have ct3_3 : u3.cell? ⟨u2.heap.size, 3, none⟩ = some (.int .u64 r3) := Zt3.out.cell 3
  have ct3_4 : u3.cell? ⟨u2.heap.size, 4, none⟩ = some (.int .i64 O) := Zt3.out.cell 4
  have ct3_5 : u3.cell? ⟨u2.heap.size, 5, none⟩ = some (.int .u64 en) := Zt3.out.cell 5
  have ct3_6 : u3.cell? ⟨u2.heap.size, 6, none⟩ = some (.bool i) := Zt3.out.cell 6
  have ct3_7 : u3.cell? ⟨u2.heap.size, 7, none⟩ = some (.int .u64 a) := Zt3.out.cell 7
  have ct3_8 : u3.cell? ⟨u2.heap.size, 8, none⟩ = some (.int .i64 c) := Zt3.out.cell 8
  have ct3_9 : u3.cell? ⟨u2.heap.size, 9, none⟩ = some (.int .u64 s0) := Zt3.out.cell 9
  have ct3_10 : u3.cell? ⟨u2.heap.size, 10, none⟩ = some (.int .u64 s1) := Zt3.out.cell 10
  have ct3_11 : u3.cell? ⟨u2.heap.size, 11, none⟩ = some (.int .u64 s2) := Zt3.out.cell 11
  have ct3_12 : u3.cell? ⟨u2.heap.size, 12, none⟩ = some (.int .u64 s3) := Zt3.out.cell 12
  go_wp2_with fail
  refine (AW.out _).mono ?_
  rintro e u4 ⟨rfl, hb⟩
  have B4 : Hid (Below w.heap.size w u4) := below_then (below_new (B3.out) _) hb
  have Zs4 : Hid (Blk u4 (w.heap.size) [.int .u64 r0, .int .u64 r1, .int .u64 r2, .int .u64 r3, .int .i64 t, .int .u64 en, .bool i, .int .u64 a, .int .i64 c, .int .u64 s0, .int .u64 s1, .int .u64 s2, .int .u64 s3] 28) := (Zs3.out.below (Go.Joins.below_alloc1 _ _)).below hb
  have Zt4 : Hid (Blk u4 (u2.heap.size) [.int .u64 r0, .int .u64 r1, .int .u64 X, .int .u64 r3, .int .i64 O, .int .u64 en, .bool i, .int .u64 a, .int .i64 c, .int .u64 s0, .int .u64 s1, .int .u64 s2, .int .u64 s3] 28) := (Zt3.out.below (Go.Joins.below_alloc1 _ _)).below hb
  have Zu4 : Hid (Blk u4 (u3.heap.size) [.int .u64 r0, .int .u64 r1, .int .u64 X, .int .u64 r3, .int .i64 O, .int .u64 en, .bool i, .int .u64 a, .int .i64 c, .int .u64 s0, .int .u64 s1, .int .u64 s2, .int .u64 s3] 28) := Blk.below (Blk.made _ _ _) hb
  clear hb B3 Zs3 Zt3 AW
  have ls4 : w.heap.size < u4.heap.size := blk_lt Zs4.out
  have cs4_0 : u4.cell? ⟨w.heap.size, 0, none⟩ = some (.int .u64 r0) := Zs4.out.cell 0
  have cs4_1 : u4.cell? ⟨w.heap.size, 1, none⟩ = some (.int .u64 r1) := Zs4.out.cell 1
  have cs4_2 : u4.cell? ⟨w.heap.size, 2, none⟩ = some (.int .u64 r2) := Zs4.out.cell 2
  have cs4_3 : u4.cell? ⟨w.heap.size, 3, none⟩ = some (.int .u64 r3) := Zs4.out.cell 3
  have cs4_4 : u4.cell? ⟨w.heap.size, 4, none⟩ = some (.int .i64 t) := Zs4.out.cell 4
  have cs4_5 : u4.cell? ⟨w.heap.size, 5, none⟩ = some (.int .u64 en) := Zs4.out.cell 5
  have cs4_6 : u4.cell? ⟨w.heap.size, 6, none⟩ = some (.bool i) := Zs4.out.cell 6
  have cs4_7 : u4.cell? ⟨w.heap.size, 7, none⟩ = some (.int .u64 a) := Zs4.out.cell 7
  have cs4_8 : u4.cell? ⟨w.heap.size, 8, none⟩ = some (.int .i64 c) := Zs4.out.cell 8
  have cs4_9 : u4.cell? ⟨w.heap.size, 9, none⟩ = some (.int .u64 s0) := Zs4.out.cell 9
  have cs4_10 : u4.cell? ⟨w.heap.size, 10, none⟩ = some (.int .u64 s1) := Zs4.out.cell 10
  have cs4_11 : u4.cell? ⟨w.heap.size, 11, none⟩ = some (.int .u64 s2) := Zs4.out.cell 11
  have cs4_12 : u4.cell? ⟨w.heap.size, 12, none⟩ = some (.int .u64 s3) := Zs4.out.cell 12
  have lt4 : u2.heap.size < u4.heap.size := blk_lt Zt4.out
  have ct4_0 : u4.cell? ⟨u2.heap.size, 0, none⟩ = some (.int .u64 r0) := Zt4.out.cell 0
  have ct4_1 : u4.cell? ⟨u2.heap.size, 1, none⟩ = some (.int .u64 r1) := Zt4.out.cell 1
  have ct4_2 : u4.cell? ⟨u2.heap.size, 2, none⟩ = some (.int .u64 X) := Zt4.out.cell 2
  have ct4_3 : u4.cell? ⟨u2.heap.size, 3, none⟩ = some (.int .u64 r3) := Zt4.out.cell 3
  have ct4_4 : u4.cell? ⟨u2.heap.size, 4, none⟩ = some (.int .i64 O) := Zt4.out.cell 4
  have ct4_5 : u4.cell? ⟨u2.heap.size, 5, none⟩ = some (.int .u64 en) := Zt4.out.cell 5
  have ct4_6 : u4.cell? ⟨u2.heap.size, 6, none⟩ = some (.bool i) := Zt4.out.cell 6
  have ct4_7 : u4.cell? ⟨u2.heap.size, 7, none⟩ = some (.int .u64 a) := Zt4.out.cell 7
  have ct4_8 : u4.cell? ⟨u2.heap.size, 8, none⟩ = some (.int .i64 c) := Zt4.out.cell 8
  have ct4_9 : u4.cell? ⟨u2.heap.size, 9, none⟩ = some (.int .u64 s0) := Zt4.out.cell 9
  have ct4_10 : u4.cell? ⟨u2.heap.size, 10, none⟩ = some (.int .u64 s1) := Zt4.out.cell 10
  have ct4_11 : u4.cell? ⟨u2.heap.size, 11, none⟩ = some (.int .u64 s2) := Zt4.out.cell 11
  have ct4_12 : u4.cell? ⟨u2.heap.size, 12, none⟩ = some (.int .u64 s3) := Zt4.out.cell 12
  have lu4 : u3.heap.size < u4.heap.size := blk_lt Zu4.out
  have cu4_0 : u4.cell? ⟨u3.heap.size, 0, none⟩ = some (.int .u64 r0) := Zu4.out.cell 0
  have cu4_1 : u4.cell? ⟨u3.heap.size, 1, none⟩ = some (.int .u64 r1) := Zu4.out.cell 1
  have cu4_2 : u4.cell? ⟨u3.heap.size, 2, none⟩ = some (.int .u64 X) := Zu4.out.cell 2
  have cu4_3 : u4.cell? ⟨u3.heap.size, 3, none⟩ = some (.int .u64 r3) := Zu4.out.cell 3
  have cu4_4 : u4.cell? ⟨u3.heap.size, 4, none⟩ = some (.int .i64 O) := Zu4.out.cell 4
  have cu4_5 : u4.cell? ⟨u3.heap.size, 5, none⟩ = some (.int .u64 en) := Zu4.out.cell 5
  have cu4_6 : u4.cell? ⟨u3.heap.size, 6, none⟩ = some (.bool i) := Zu4.out.cell 6
  have cu4_7 : u4.cell? ⟨u3.heap.size, 7, none⟩ = some (.int .u64 a) := Zu4.out.cell 7
  have cu4_8 : u4.cell? ⟨u3.heap.size, 8, none⟩ = some (.int .i64 c) := Zu4.out.cell 8
  have cu4_9 : u4.cell? ⟨u3.heap.size, 9, none⟩ = some (.int .u64 s0) := Zu4.out.cell 9
  have cu4_10 : u4.cell? ⟨u3.heap.size, 10, none⟩ = some (.int .u64 s1) := Zu4.out.cell 10
  have cu4_11 : u4.cell? ⟨u3.heap.size, 11, none⟩ = some (.int .u64 s2) := Zu4.out.cell 11
  have cu4_12 : u4.cell? ⟨u3.heap.size, 12, none⟩ = some (.int .u64 s3) := Zu4.out.cell 12
  go_wp2_with fail
  go_ret
  exact ⟨rfl, B4.out⟩
set_option maxHeartbeats 16000000 in
theorem good3 (r0 r1 r2 r3 t en : Int) (i : Bool) (a c s0 s1 s2 s3 : Int) (op : Int) (ka kb : Nat) (la : ka < 4) (lb : kb < 4) (ra rb : Int) (hra : [r0, r1, r2, r3][ka]? = some ra) (hrb : [r0, r1, r2, r3][kb]? = some rb) (X X2 : Int) (O : Int) (hO : bits .or .i64 t X2 = O) (o1 : bits .and .i64 O t = t) (o2 : bits .and .i64 O X2 = X2) (o3 : bits .andNot .i64 O O = 0)
    (DO : Hid (∀ W : World, Calls Try.prog 13 #[.int .i64 op, .int .u64 ra, .int .u64 rb] W fun e w' => e = .returned (.tuple #[.int .u64 X, .int .i64 X2, .int .i64 0]) ∧ ∃ n, w' = W.drewN n)) (w : World) :
    Calls Try.prog 5 #[.agg #[.int .u64 r0, .int .u64 r1, .int .u64 r2, .int .u64 r3, .int .i64 t, .int .u64 en, .bool i, .int .u64 a, .int .i64 c, .int .u64 s0, .int .u64 s1, .int .u64 s2, .int .u64 s3], .int .i64 op, .int .i64 (ka : Int), .int .i64 (kb : Int), .int .i64 3] w fun e w' => e = .returned (.bool true) ∧ Below w.heap.size w w' := by
  have g : ∀ (k : Nat) (v : Int), k < 4 → [r0, r1, r2, r3][k]? = some v → ([.int .u64 r0, .int .u64 r1, .int .u64 r2, .int .u64 r3, .int .i64 t, .int .u64 en, .bool i, .int .u64 a, .int .i64 c, .int .u64 s0, .int .u64 s1, .int .u64 s2, .int .u64 s3] : List Value)[k]? = some (.int .u64 v) := fun k v hk hv => by
    match k, hk with
    | 0, _ => simp at hv; simp [hv]
    | 1, _ => simp at hv; simp [hv]
    | 2, _ => simp at hv; simp [hv]
    | 3, _ => simp at hv; simp [hv]
  have GA : Hid (([.int .u64 r0, .int .u64 r1, .int .u64 r2, .int .u64 r3, .int .i64 t, .int .u64 en, .bool i, .int .u64 a, .int .i64 c, .int .u64 s0, .int .u64 s1, .int .u64 s2, .int .u64 s3] : List Value)[ka]? = some (.int .u64 ra)) := g ka ra la hra
  have GB : Hid (([.int .u64 r0, .int .u64 r1, .int .u64 r2, .int .u64 r3, .int .i64 t, .int .u64 en, .bool i, .int .u64 a, .int .i64 c, .int .u64 s0, .int .u64 s1, .int .u64 s2, .int .u64 s3] : List Value)[kb]? = some (.int .u64 rb)) := g kb rb lb hrb
  have C1 : Hid (∀ W : World, Calls Try.prog 12 #[.agg #[.int .u64 r0, .int .u64 r1, .int .u64 r2, .int .u64 r3, .int .i64 t, .int .u64 en, .bool i, .int .u64 a, .int .i64 c, .int .u64 s0, .int .u64 s1, .int .u64 s2, .int .u64 s3], .int .i64 op, .int .i64 (ka : Int), .int .i64 (kb : Int), .int .i64 3] W fun e w' => e = .returned (.tuple #[.agg #[.int .u64 r0, .int .u64 r1, .int .u64 r2, .int .u64 X, .int .i64 O, .int .u64 en, .bool i, .int .u64 a, .int .i64 c, .int .u64 s0, .int .u64 s1, .int .u64 s2, .int .u64 s3], .int .i64 0]) ∧ Below W.heap.size W w') := fun W => reckon_3 r0 r1 r2 r3 t en i a c s0 s1 s2 s3 op ka kb la lb ra rb hra hrb X X2 O hO DO W
  have C2 : Hid (∀ W : World, Calls Try.prog 14 #[.agg #[.int .u64 r0, .int .u64 r1, .int .u64 r2, .int .u64 r3, .int .i64 t, .int .u64 en, .bool i, .int .u64 a, .int .i64 c, .int .u64 s0, .int .u64 s1, .int .u64 s2, .int .u64 s3], .int .i64 3, .int .u64 X] W fun e w' => e = .returned (.tuple #[.agg #[.int .u64 r0, .int .u64 r1, .int .u64 r2, .int .u64 X, .int .i64 t, .int .u64 en, .bool i, .int .u64 a, .int .i64 c, .int .u64 s0, .int .u64 s1, .int .u64 s2, .int .u64 s3], .int .i64 0]) ∧ Below W.heap.size W w') := fun W => move_3 r0 r1 r2 r3 t en i a c s0 s1 s2 s3 X W
  clear g hra hrb
  have E1 : ∀ W : World, (binOp .eql 28 (.agg #[.int .u64 r0, .int .u64 r1, .int .u64 r2, .int .u64 X, .int .i64 O, .int .u64 en, .bool i, .int .u64 a, .int .i64 c, .int .u64 s0, .int .u64 s1, .int .u64 s2, .int .u64 s3]) (.agg #[.int .u64 r0, .int .u64 r1, .int .u64 r2, .int .u64 X, .int .i64 O, .int .u64 en, .bool i, .int .u64 a, .int .i64 c, .int .u64 s0, .int .u64 s1, .int .u64 s2, .int .u64 s3])).run Try.prog W = .ok (.bool true) W := fun W => (eqS (St.mk r0 r1 r2 X O en i a c s0 s1 s2 s3) (St.mk r0 r1 r2 X O en i a c s0 s1 s2 s3) W).trans (by simp)
  have AW : Hid (∀ W : World, Calls Try.prog 8 #[] W fun e w' => e = .returned (.bool true) ∧ Below W.heap.size W w') := fun W => awake_any W
  have d1 : decide ((ka : Int) < 0) = false := by simp
  have d2 : decide ((ka : Int) < 4) = true := by simp; omega
  have d3 : decide ((kb : Int) < 0) = false := by simp
  have d4 : decide ((kb : Int) < 4) = true := by simp; omega
  have d5 : decide (3 < (ka : Int)) = false := by simp; omega
  have d6 : decide (3 < (kb : Int)) = false := by simp; omega
  go_enter Try.func5, Try.ntmps5
  have AL : Hid (Blk (w.alloc (.cells #[.int .u64 r0, .int .u64 r1, .int .u64 r2, .int .u64 r3, .int .i64 t, .int .u64 en, .bool i, .int .u64 a, .int .i64 c, .int .u64 s0, .int .u64 s1, .int .u64 s2, .int .u64 s3] 28)) w.heap.size [.int .u64 r0, .int .u64 r1, .int .u64 r2, .int .u64 r3, .int .i64 t, .int .u64 en, .bool i, .int .u64 a, .int .i64 c, .int .u64 s0, .int .u64 s1, .int .u64 s2, .int .u64 s3] 28) := Blk.made w _ _
  have BL : Hid (Below w.heap.size w (w.alloc (.cells #[.int .u64 r0, .int .u64 r1, .int .u64 r2, .int .u64 r3, .int .i64 t, .int .u64 en, .bool i, .int .u64 a, .int .i64 c, .int .u64 s0, .int .u64 s1, .int .u64 s2, .int .u64 s3] 28))) := Go.Joins.below_alloc1 _ _
  go_upto_region 4 with fail
  generalize w.alloc (.cells #[.int .u64 r0, .int .u64 r1, .int .u64 r2, .int .u64 r3, .int .i64 t, .int .u64 en, .bool i, .int .u64 a, .int .i64 c, .int .u64 s0, .int .u64 s1, .int .u64 s2, .int .u64 s3] 28) = u at AL BL ⊢
  have ca : u.cell? ⟨w.heap.size, ka, none⟩ = some (.int .u64 ra) := (AL.out.cell ka).trans GA.out
  have cb : u.cell? ⟨w.heap.size, kb, none⟩ = some (.int .u64 rb) := (AL.out.cell kb).trans GB.out
  go_quiet ((go_at_call 13; refine Calls.quiet_of (DO.out _)))
  have Zs1 : Hid (Blk (u.drewN nq) w.heap.size [.int .u64 r0, .int .u64 r1, .int .u64 r2, .int .u64 r3, .int .i64 t, .int .u64 en, .bool i, .int .u64 a, .int .i64 c, .int .u64 s0, .int .u64 s1, .int .u64 s2, .int .u64 s3] 28) := AL.out
  have B1 : Hid (Below w.heap.size w (u.drewN nq)) := below_drewN BL.out _
  clear ca cb AL BL
  generalize u.drewN nq = u1 at Zs1 B1 ⊢
  have ls1 : w.heap.size < u1.heap.size := blk_lt Zs1.out
  have cs1_0 : u1.cell? ⟨w.heap.size, 0, none⟩ = some (.int .u64 r0) := Zs1.out.cell 0
  have cs1_1 : u1.cell? ⟨w.heap.size, 1, none⟩ = some (.int .u64 r1) := Zs1.out.cell 1
  have cs1_2 : u1.cell? ⟨w.heap.size, 2, none⟩ = some (.int .u64 r2) := Zs1.out.cell 2
  have cs1_3 : u1.cell? ⟨w.heap.size, 3, none⟩ = some (.int .u64 r3) := Zs1.out.cell 3
  have cs1_4 : u1.cell? ⟨w.heap.size, 4, none⟩ = some (.int .i64 t) := Zs1.out.cell 4
  have cs1_5 : u1.cell? ⟨w.heap.size, 5, none⟩ = some (.int .u64 en) := Zs1.out.cell 5
  have cs1_6 : u1.cell? ⟨w.heap.size, 6, none⟩ = some (.bool i) := Zs1.out.cell 6
  have cs1_7 : u1.cell? ⟨w.heap.size, 7, none⟩ = some (.int .u64 a) := Zs1.out.cell 7
  have cs1_8 : u1.cell? ⟨w.heap.size, 8, none⟩ = some (.int .i64 c) := Zs1.out.cell 8
  have cs1_9 : u1.cell? ⟨w.heap.size, 9, none⟩ = some (.int .u64 s0) := Zs1.out.cell 9
  have cs1_10 : u1.cell? ⟨w.heap.size, 10, none⟩ = some (.int .u64 s1) := Zs1.out.cell 10
  have cs1_11 : u1.cell? ⟨w.heap.size, 11, none⟩ = some (.int .u64 s2) := Zs1.out.cell 11
  have cs1_12 : u1.cell? ⟨w.heap.size, 12, none⟩ = some (.int .u64 s3) := Zs1.out.cell 12
  go_wp2_with fail
  refine (C1.out _).mono ?_
  rintro e u2 ⟨rfl, hb⟩
  have B2 : Hid (Below w.heap.size w u2) := below_then (B1.out) hb
  have Zs2 : Hid (Blk u2 (w.heap.size) [.int .u64 r0, .int .u64 r1, .int .u64 r2, .int .u64 r3, .int .i64 t, .int .u64 en, .bool i, .int .u64 a, .int .i64 c, .int .u64 s0, .int .u64 s1, .int .u64 s2, .int .u64 s3] 28) := Zs1.out.below hb
  clear hb B1 Zs1 C1
  have ls2 : w.heap.size < u2.heap.size := blk_lt Zs2.out
  have cs2_0 : u2.cell? ⟨w.heap.size, 0, none⟩ = some (.int .u64 r0) := Zs2.out.cell 0
  have cs2_1 : u2.cell? ⟨w.heap.size, 1, none⟩ = some (.int .u64 r1) := Zs2.out.cell 1
  have cs2_2 : u2.cell? ⟨w.heap.size, 2, none⟩ = some (.int .u64 r2) := Zs2.out.cell 2
  have cs2_3 : u2.cell? ⟨w.heap.size, 3, none⟩ = some (.int .u64 r3) := Zs2.out.cell 3
  have cs2_4 : u2.cell? ⟨w.heap.size, 4, none⟩ = some (.int .i64 t) := Zs2.out.cell 4
  have cs2_5 : u2.cell? ⟨w.heap.size, 5, none⟩ = some (.int .u64 en) := Zs2.out.cell 5
  have cs2_6 : u2.cell? ⟨w.heap.size, 6, none⟩ = some (.bool i) := Zs2.out.cell 6
  have cs2_7 : u2.cell? ⟨w.heap.size, 7, none⟩ = some (.int .u64 a) := Zs2.out.cell 7
  have cs2_8 : u2.cell? ⟨w.heap.size, 8, none⟩ = some (.int .i64 c) := Zs2.out.cell 8
  have cs2_9 : u2.cell? ⟨w.heap.size, 9, none⟩ = some (.int .u64 s0) := Zs2.out.cell 9
  have cs2_10 : u2.cell? ⟨w.heap.size, 10, none⟩ = some (.int .u64 s1) := Zs2.out.cell 10
  have cs2_11 : u2.cell? ⟨w.heap.size, 11, none⟩ = some (.int .u64 s2) := Zs2.out.cell 11
  have cs2_12 : u2.cell? ⟨w.heap.size, 12, none⟩ = some (.int .u64 s3) := Zs2.out.cell 12
  go_wp2_with fail
  refine (C2.out _).mono ?_
  rintro e u3 ⟨rfl, hb⟩
  have B3 : Hid (Below w.heap.size w u3) := below_then (below_new (B2.out) _) hb
  have Zs3 : Hid (Blk u3 (w.heap.size) [.int .u64 r0, .int .u64 r1, .int .u64 r2, .int .u64 r3, .int .i64 t, .int .u64 en, .bool i, .int .u64 a, .int .i64 c, .int .u64 s0, .int .u64 s1, .int .u64 s2, .int .u64 s3] 28) := (Zs2.out.below (Go.Joins.below_alloc1 _ _)).below hb
  have Zt3 : Hid (Blk u3 (u2.heap.size) [.int .u64 r0, .int .u64 r1, .int .u64 r2, .int .u64 X, .int .i64 O, .int .u64 en, .bool i, .int .u64 a, .int .i64 c, .int .u64 s0, .int .u64 s1, .int .u64 s2, .int .u64 s3] 28) := Blk.below (Blk.made _ _ _) hb
  clear hb B2 Zs2 C2
  have lt3 : u2.heap.size < u3.heap.size := blk_lt Zt3.out
  have ct3_0 : u3.cell? ⟨u2.heap.size, 0, none⟩ = some (.int .u64 r0) := Zt3.out.cell 0
  have ct3_1 : u3.cell? ⟨u2.heap.size, 1, none⟩ = some (.int .u64 r1) := Zt3.out.cell 1
  have ct3_2 : u3.cell? ⟨u2.heap.size, 2, none⟩ = some (.int .u64 r2) := Zt3.out.cell 2
  have ct3_3 : u3.cell? ⟨u2.heap.size, 3, none⟩ = some (.int .u64 X) := Zt3.out.cell 3
  have ct3_4 : u3.cell? ⟨u2.heap.size, 4, none⟩ = some (.int .i64 O) := Zt3.out.cell 4
  have ct3_5 : u3.cell? ⟨u2.heap.size, 5, none⟩ = some (.int .u64 en) := Zt3.out.cell 5
  have ct3_6 : u3.cell? ⟨u2.heap.size, 6, none⟩ = some (.bool i) := Zt3.out.cell 6
  have ct3_7 : u3.cell? ⟨u2.heap.size, 7, none⟩ = some (.int .u64 a) := Zt3.out.cell 7
  have ct3_8 : u3.cell? ⟨u2.heap.size, 8, none⟩ = some (.int .i64 c) := Zt3.out.cell 8
  have ct3_9 : u3.cell? ⟨u2.heap.size, 9, none⟩ = some (.int .u64 s0) := Zt3.out.cell 9
  have ct3_10 : u3.cell? ⟨u2.heap.size, 10, none⟩ = some (.int .u64 s1) := Zt3.out.cell 10
  have ct3_11 : u3.cell? ⟨u2.heap.size, 11, none⟩ = some (.int .u64 s2) := Zt3.out.cell 11
  have ct3_12 : u3.cell? ⟨u2.heap.size, 12, none⟩ = some (.int .u64 s3) := Zt3.out.cell 12
  go_wp2_with fail
  refine (AW.out _).mono ?_
  rintro e u4 ⟨rfl, hb⟩
  have B4 : Hid (Below w.heap.size w u4) := below_then (below_new (B3.out) _) hb
  have Zs4 : Hid (Blk u4 (w.heap.size) [.int .u64 r0, .int .u64 r1, .int .u64 r2, .int .u64 r3, .int .i64 t, .int .u64 en, .bool i, .int .u64 a, .int .i64 c, .int .u64 s0, .int .u64 s1, .int .u64 s2, .int .u64 s3] 28) := (Zs3.out.below (Go.Joins.below_alloc1 _ _)).below hb
  have Zt4 : Hid (Blk u4 (u2.heap.size) [.int .u64 r0, .int .u64 r1, .int .u64 r2, .int .u64 X, .int .i64 O, .int .u64 en, .bool i, .int .u64 a, .int .i64 c, .int .u64 s0, .int .u64 s1, .int .u64 s2, .int .u64 s3] 28) := (Zt3.out.below (Go.Joins.below_alloc1 _ _)).below hb
  have Zu4 : Hid (Blk u4 (u3.heap.size) [.int .u64 r0, .int .u64 r1, .int .u64 r2, .int .u64 X, .int .i64 O, .int .u64 en, .bool i, .int .u64 a, .int .i64 c, .int .u64 s0, .int .u64 s1, .int .u64 s2, .int .u64 s3] 28) := Blk.below (Blk.made _ _ _) hb
  clear hb B3 Zs3 Zt3 AW
  have ls4 : w.heap.size < u4.heap.size := blk_lt Zs4.out
  have cs4_0 : u4.cell? ⟨w.heap.size, 0, none⟩ = some (.int .u64 r0) := Zs4.out.cell 0
  have cs4_1 : u4.cell? ⟨w.heap.size, 1, none⟩ = some (.int .u64 r1) := Zs4.out.cell 1
  have cs4_2 : u4.cell? ⟨w.heap.size, 2, none⟩ = some (.int .u64 r2) := Zs4.out.cell 2
  have cs4_3 : u4.cell? ⟨w.heap.size, 3, none⟩ = some (.int .u64 r3) := Zs4.out.cell 3
  have cs4_4 : u4.cell? ⟨w.heap.size, 4, none⟩ = some (.int .i64 t) := Zs4.out.cell 4
  have cs4_5 : u4.cell? ⟨w.heap.size, 5, none⟩ = some (.int .u64 en) := Zs4.out.cell 5
  have cs4_6 : u4.cell? ⟨w.heap.size, 6, none⟩ = some (.bool i) := Zs4.out.cell 6
  have cs4_7 : u4.cell? ⟨w.heap.size, 7, none⟩ = some (.int .u64 a) := Zs4.out.cell 7
  have cs4_8 : u4.cell? ⟨w.heap.size, 8, none⟩ = some (.int .i64 c) := Zs4.out.cell 8
  have cs4_9 : u4.cell? ⟨w.heap.size, 9, none⟩ = some (.int .u64 s0) := Zs4.out.cell 9
  have cs4_10 : u4.cell? ⟨w.heap.size, 10, none⟩ = some (.int .u64 s1) := Zs4.out.cell 10
  have cs4_11 : u4.cell? ⟨w.heap.size, 11, none⟩ = some (.int .u64 s2) := Zs4.out.cell 11
  have cs4_12 : u4.cell? ⟨w.heap.size, 12, none⟩ = some (.int .u64 s3) := Zs4.out.cell 12
  have lt4 : u2.heap.size < u4.heap.size := blk_lt Zt4.out
  have ct4_0 : u4.cell? ⟨u2.heap.size, 0, none⟩ = some (.int .u64 r0) := Zt4.out.cell 0
  have ct4_1 : u4.cell? ⟨u2.heap.size, 1, none⟩ = some (.int .u64 r1) := Zt4.out.cell 1
  have ct4_2 : u4.cell? ⟨u2.heap.size, 2, none⟩ = some (.int .u64 r2) := Zt4.out.cell 2
  have ct4_3 : u4.cell? ⟨u2.heap.size, 3, none⟩ = some (.int .u64 X) := Zt4.out.cell 3
  have ct4_4 : u4.cell? ⟨u2.heap.size, 4, none⟩ = some (.int .i64 O) := Zt4.out.cell 4
  have ct4_5 : u4.cell? ⟨u2.heap.size, 5, none⟩ = some (.int .u64 en) := Zt4.out.cell 5
  have ct4_6 : u4.cell? ⟨u2.heap.size, 6, none⟩ = some (.bool i) := Zt4.out.cell 6
  have ct4_7 : u4.cell? ⟨u2.heap.size, 7, none⟩ = some (.int .u64 a) := Zt4.out.cell 7
  have ct4_8 : u4.cell? ⟨u2.heap.size, 8, none⟩ = some (.int .i64 c) := Zt4.out.cell 8
  have ct4_9 : u4.cell? ⟨u2.heap.size, 9, none⟩ = some (.int .u64 s0) := Zt4.out.cell 9
  have ct4_10 : u4.cell? ⟨u2.heap.size, 10, none⟩ = some (.int .u64 s1) := Zt4.out.cell 10
  have ct4_11 : u4.cell? ⟨u2.heap.size, 11, none⟩ = some (.int .u64 s2) := Zt4.out.cell 11
  have ct4_12 : u4.cell? ⟨u2.heap.size, 12, none⟩ = some (.int .u64 s3) := Zt4.out.cell 12
  have lu4 : u3.heap.size < u4.heap.size := blk_lt Zu4.out
  have cu4_0 : u4.cell? ⟨u3.heap.size, 0, none⟩ = some (.int .u64 r0) := Zu4.out.cell 0
  have cu4_1 : u4.cell? ⟨u3.heap.size, 1, none⟩ = some (.int .u64 r1) := Zu4.out.cell 1
  have cu4_2 : u4.cell? ⟨u3.heap.size, 2, none⟩ = some (.int .u64 r2) := Zu4.out.cell 2
  have cu4_3 : u4.cell? ⟨u3.heap.size, 3, none⟩ = some (.int .u64 X) := Zu4.out.cell 3
  have cu4_4 : u4.cell? ⟨u3.heap.size, 4, none⟩ = some (.int .i64 O) := Zu4.out.cell 4
  have cu4_5 : u4.cell? ⟨u3.heap.size, 5, none⟩ = some (.int .u64 en) := Zu4.out.cell 5
  have cu4_6 : u4.cell? ⟨u3.heap.size, 6, none⟩ = some (.bool i) := Zu4.out.cell 6
  have cu4_7 : u4.cell? ⟨u3.heap.size, 7, none⟩ = some (.int .u64 a) := Zu4.out.cell 7
  have cu4_8 : u4.cell? ⟨u3.heap.size, 8, none⟩ = some (.int .i64 c) := Zu4.out.cell 8
  have cu4_9 : u4.cell? ⟨u3.heap.size, 9, none⟩ = some (.int .u64 s0) := Zu4.out.cell 9
  have cu4_10 : u4.cell? ⟨u3.heap.size, 10, none⟩ = some (.int .u64 s1) := Zu4.out.cell 10
  have cu4_11 : u4.cell? ⟨u3.heap.size, 11, none⟩ = some (.int .u64 s2) := Zu4.out.cell 11
  have cu4_12 : u4.cell? ⟨u3.heap.size, 12, none⟩ = some (.int .u64 s3) := Zu4.out.cell 12
  go_wp2_with fail
  go_ret
  exact ⟨rfl, B4.out⟩
theorem wfu {x : Int} (h : (Lit.int .u64 x).wf = true) : 0 ≤ x ∧ x < 18446744073709551616 := by simp [Lit.wf, IntKind.min, IntKind.max, IntKind.signed, IntKind.bits] at h; omega
theorem tells_bd (op : Int) (a b : Nat) : 0 ≤ FltM.doT op a b ∧ FltM.doT op a b < 8 := by
  unfold FltM.doT FltM.tells
  repeat' split
  all_goals omega

set_option maxRecDepth 8000 in
set_option maxHeartbeats 16000000 in
theorem walk (s0 : St) (w0 : (Lit.int .u64 (s0.r0)).wf = true ∧ (Lit.int .u64 (s0.r1)).wf = true ∧ (Lit.int .u64 (s0.r2)).wf = true ∧ (Lit.int .u64 (s0.r3)).wf = true ∧ (Lit.int .i64 (s0.told)).wf = true ∧ (Lit.int .u64 (s0.en)).wf = true ∧ (Lit.int .u64 (s0.fa)).wf = true ∧ (Lit.int .i64 (s0.fc)).wf = true ∧ (Lit.int .u64 (s0.s0)).wf = true ∧ (Lit.int .u64 (s0.s1)).wf = true ∧ (Lit.int .u64 (s0.s2)).wf = true ∧ (Lit.int .u64 (s0.s3)).wf = true ∧ True) (a1 : Int) (w1 : (Lit.int .i64 a1).wf = true) (a2 : Int) (w2 : (Lit.int .i64 a2).wf = true) (a3 : Int) (w3 : (Lit.int .i64 a3).wf = true) (a4 : Int) (w4 : (Lit.int .i64 a4).wf = true) (w : World)  :
    Calls Try.prog 5 #[s0.val, .int .i64 a1, .int .i64 a2, .int .i64 a3, .int .i64 a4] w fun e w' => e = .returned (.bool true) ∧ Below w.heap.size w w' := by
  obtain ⟨r0, r1, r2, r3, t, en, i, a, c, s0, s1, s2, s3⟩ := s0
  simp only at w0
  obtain ⟨g0, g1, g2, g3, gt, -⟩ := w0
  have b0 := wfu g0
  have b1 := wfu g1
  have b2 := wfu g2
  have b3 := wfu g3
  have bt : -9223372036854775808 ≤ t ∧ t ≤ 9223372036854775807 := by simp [Lit.wf, IntKind.min, IntKind.max, IntKind.signed, IntKind.bits] at gt; omega
  clear w1 w2 w3 w4 g0 g1 g2 g3 gt
  by_cases h0 : a2 < 0
  · exact bad0 r0 r1 r2 r3 t en i a c s0 s1 s2 s3 a1 a2 a3 a4 h0 w
  by_cases h1 : 3 < a2
  · exact bad1 r0 r1 r2 r3 t en i a c s0 s1 s2 s3 a1 a2 a3 a4 h0 h1 w
  by_cases h2 : a3 < 0
  · exact bad2 r0 r1 r2 r3 t en i a c s0 s1 s2 s3 a1 a2 a3 a4 h0 h1 h2 w
  by_cases h3 : 3 < a3
  · exact bad3 r0 r1 r2 r3 t en i a c s0 s1 s2 s3 a1 a2 a3 a4 h0 h1 h2 h3 w
  by_cases h4 : a4 < 0
  · exact bad4 r0 r1 r2 r3 t en i a c s0 s1 s2 s3 a1 a2 a3 a4 h0 h1 h2 h3 h4 w
  by_cases h5 : 3 < a4
  · exact bad5 r0 r1 r2 r3 t en i a c s0 s1 s2 s3 a1 a2 a3 a4 h0 h1 h2 h3 h4 h5 w
  obtain ⟨ka, rfl⟩ : ∃ k : Nat, a2 = k := ⟨a2.toNat, by omega⟩
  obtain ⟨kb, rfl⟩ : ∃ k : Nat, a3 = k := ⟨a3.toNat, by omega⟩
  have la : ka < 4 := by omega
  have lb : kb < 4 := by omega
  have bd : ∀ k : Nat, k < 4 → ∃ v, [r0, r1, r2, r3][k]? = some v ∧ 0 ≤ v ∧ v < 18446744073709551616 := fun k hk => by
    match k, hk with
    | 0, _ => exact ⟨r0, rfl, b0⟩
    | 1, _ => exact ⟨r1, rfl, b1⟩
    | 2, _ => exact ⟨r2, rfl, b2⟩
    | 3, _ => exact ⟨r3, rfl, b3⟩
  obtain ⟨ra, ea, pa, qa⟩ := bd ka la
  obtain ⟨rb, eb, pb, qb⟩ := bd kb lb
  have DO : ∀ W : World, Calls Try.prog 13 #[.int .i64 a1, .int .u64 ra, .int .u64 rb] W fun e w' => e = .returned (.tuple #[.int .u64 (FltM.doR a1 ra.toNat rb.toNat : Nat), .int .i64 (FltM.doT a1 ra.toNat rb.toNat), .int .i64 (FltM.doE a1)]) ∧ ∃ n, w' = W.drewN n := fun W => do_any a1 ra rb pa qa pb qb W
  have tb := tells_bd a1 ra.toNat rb.toNat
  generalize ((FltM.doR a1 ra.toNat rb.toNat : Nat) : Int) = X at DO
  generalize FltM.doT a1 ra.toNat rb.toNat = X2 at DO tb
  by_cases hE : FltM.doE a1 = 0
  · rw [hE] at DO
    have o1 := or_left (a := t) (b := X2) bt.1 bt.2
    have o2 := or_right (a := t) (b := X2) (by omega) (by omega)
    have o3 := or_none t X2
    generalize hO : bits .or .i64 t X2 = O at o1 o2 o3
    rcases (show a4 = 0 ∨ a4 = 1 ∨ a4 = 2 ∨ a4 = 3 by omega) with rfl | rfl | rfl | rfl
    · exact good0 r0 r1 r2 r3 t en i a c s0 s1 s2 s3 a1 ka kb la lb ra rb ea eb X X2 O hO o1 o2 o3 DO w
    · exact good1 r0 r1 r2 r3 t en i a c s0 s1 s2 s3 a1 ka kb la lb ra rb ea eb X X2 O hO o1 o2 o3 DO w
    · exact good2 r0 r1 r2 r3 t en i a c s0 s1 s2 s3 a1 ka kb la lb ra rb ea eb X X2 O hO o1 o2 o3 DO w
    · exact good3 r0 r1 r2 r3 t en i a c s0 s1 s2 s3 a1 ka kb la lb ra rb ea eb X X2 O hO o1 o2 o3 DO w
  · exact err r0 r1 r2 r3 t en i a c s0 s1 s2 s3 a1 ka kb la lb a4 (by omega) ra rb ea eb X X2 (FltM.doE a1) hE DO w

theorem own : ownKnob Try.prog.godebug = none := by kernel_rfl
theorem laidOut : laidOutB Try.prog = true := by kernel_rfl
set_option maxRecDepth 100000 in
theorem lifted (os : Os) (started : os.Started) (H : Type) (enc : TypeId × Value → H) :
    ReturnsInHanded {} Try.checked os 5 .any (Rows.trapReckonsSpec.pre6 enc Try.prog Try.f5 Rows.trapReckonsRow.domain false) (Rows.trapReckonsSpec.post enc Try.prog Try.f5 false true false false) := by
  refine returnsInHanded_of_change (C := Try.checked) own started (by kernel_rfl) Try.func5
    (ChangeSpec.witness6 (enc := enc) (C := Try.checked) false ⟨#[], #[.agg #[.int .u64 0, .int .u64 0, .int .u64 0, .int .u64 0, .int .i64 0, .int .u64 0, .bool false, .int .u64 0, .int .i64 0, .int .u64 0, .int .u64 0, .int .u64 0, .int .u64 0], .int .i64 0, .int .i64 0, .int .i64 0, .int .i64 0], []⟩ 8 (by kernel_rfl) (by kernel_rfl) (by kernel_rfl) (by kernel_rfl)) ?_
  intro W base args ds gs before hval0 hW hcnd _
  have hval : ∀ (j : Nat) t v, Try.f5.params[j]? = some t → args[j]? = some v → Value.okWide Try.prog W .any base t v := hval0
  have hW' := hW
  obtain ⟨p, q, hA0, hV, hbef, hfz, hnd⟩ := hW
  have hA : DataW.TrodAll enc Try.prog W 0 (fun _ => true) true Try.f5.params.toList args.toList ds p := hA0
  have hAk := hA
  have hlt : ∀ x ∈ p, x.block < W.heap.size := fun x hx => hW'.lt x (by rw [hbef]; exact List.mem_append_left _ hx)
  rw [Try.params5] at hA hval
  obtain ⟨v0, vs0, d0, ds0, p0, q0, hargs, rfl, hp0, h0, r0⟩ := trodAll_cons hA
  obtain ⟨v1, vs1, d1, ds1, p1, q1, rfl, rfl, hp1, h1, r1⟩ := trodAll_cons r0
  obtain ⟨v2, vs2, d2, ds2, p2, q2, rfl, rfl, hp2, h2, r2⟩ := trodAll_cons r1
  obtain ⟨v3, vs3, d3, ds3, p3, q3, rfl, rfl, hp3, h3, r3⟩ := trodAll_cons r2
  obtain ⟨v4, vs4, d4, ds4, p4, q4, rfl, rfl, hp4, h4, r4⟩ := trodAll_cons r3
  obtain ⟨rfl, rfl, hpz⟩ := trodAll_nil r4
  obtain rfl : args = #[v0, v1, v2, v3, v4] := by cases args; simp_all
  obtain ⟨rfl, rfl⟩ := trodVars_none hV
  obtain ⟨s0, rfl, w0⟩ := open_st (hval 0 28 v0 rfl rfl) h0
  obtain ⟨a1, rfl, _, _, w1⟩ := open_int Try.underlying3 (hval 1 3 v1 rfl rfl) h1
  obtain ⟨a2, rfl, _, _, w2⟩ := open_int Try.underlying3 (hval 2 3 v2 rfl rfl) h2
  obtain ⟨a3, rfl, _, _, w3⟩ := open_int Try.underlying3 (hval 3 3 v3 rfl rfl) h3
  obtain ⟨a4, rfl, _, _, w4⟩ := open_int Try.underlying3 (hval 4 3 v4 rfl rfl) h4
  clear hA0 hval0
  refine (walk s0 w0 a1 w1 a2 w2 a3 w3 a4 w4 W ).mono fun e W' ⟨he, hg⟩ => ?_
  subst he
  exact ⟨_, rfl, ⟨_, _, _, [], p, [], hW', (trodAll_cons_mk (shut_bool Try.underlying4 _) trodAll_mk0), args_stay laidOut hg (by kernel_rfl) hAk hlt, rfl, hg.frame _, fun h => by cases h⟩⟩

theorem over : Rows.trapReckonsRow.holds Try.pinned (OpenSpec.ofChange Rows.trapReckonsSpec) :=
  OpenClaim.holds_of_wide 5 Try.f5 rfl rfl rfl rfl rfl rfl rfl ⟨rfl, rfl, rfl, rfl, rfl⟩ rfl rfl rfl rfl rfl (by kernel_rfl) Try.func5 (by kernel_rfl)
    (of_decide_eq_true (by kernel_rfl)) (by unfold Func.isWrapper; first | (rw [if_pos (by decide +kernel)]; kernel_rfl) | (rw [if_neg (by decide +kernel)]; exact ⟨rfl, rfl⟩))
    (fun os started H enc _ => lifted os started H enc)

theorem proved : Rows.TrapReckonsSaid :=
  over
#print axioms proved
end Go.Proofs.Ytcieglidghnidaa.trapReckons
