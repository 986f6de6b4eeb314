/- TrapOnce: of any state, faults and entry: at its entry a process can't fault again, nor change its entry; back from it it can. No condition. -/
import Derived.Test.YtcieglidghnidaaRows
import Derived.ProofKit
import Derived.OpenShut
import Derived.Carry
import Derived.Test.YtcieglidghnidaaA5
namespace Go.Proofs.Ytcieglidghnidaa.trapOnce
open Go.ChangeShapes Go.WideShapes Go.ChangeAt Go.RowKit Go.Maps
set_option linter.unusedSimpArgs false
set_option linter.unusedVariables false
theorem made2_0 (w : World) (C D : List Value) (t s : TypeId) : Blk ((w.alloc (.cells C.toArray t)).alloc (.cells D.toArray s)) w.heap.size C t := (Blk.made w C t).below (Go.Joins.below_alloc1 _ _)
theorem made2_1 (w : World) (C D : List Value) (t s : TypeId) : Blk ((w.alloc (.cells C.toArray t)).alloc (.cells D.toArray s)) (w.heap.size + 1) D s := by
  have h := Blk.made (w.alloc (.cells C.toArray t)) D s
  rwa [World.size_alloc] at h
theorem made3_0 (w : World) (C D E : List Value) (t s r : TypeId) : Blk (((w.alloc (.cells C.toArray t)).alloc (.cells D.toArray s)).alloc (.cells E.toArray r)) w.heap.size C t := (made2_0 w C D t s).below (Go.Joins.below_alloc1 _ _)
theorem made3_1 (w : World) (C D E : List Value) (t s r : TypeId) : Blk (((w.alloc (.cells C.toArray t)).alloc (.cells D.toArray s)).alloc (.cells E.toArray r)) (w.heap.size + 1) D s := (made2_1 w C D t s).below (Go.Joins.below_alloc1 _ _)
theorem made3_2 (w : World) (C D E : List Value) (t s r : TypeId) : Blk (((w.alloc (.cells C.toArray t)).alloc (.cells D.toArray s)).alloc (.cells E.toArray r)) (w.heap.size + 1 + 1) E r := by
  have h := Blk.made ((w.alloc (.cells C.toArray t)).alloc (.cells D.toArray s)) E r
  rwa [World.size_alloc, World.size_alloc] at h

set_option maxRecDepth 8000 in
set_option maxHeartbeats 16000000 in
theorem walk (s0 : St) (w0 : (Lit.int .u64 (s0.r0)).wf = true ∧ (Lit.int .u64 (s0.r1)).wf = true ∧ (Lit.int .u64 (s0.r2)).wf = true ∧ (Lit.int .u64 (s0.r3)).wf = true ∧ (Lit.int .i64 (s0.told)).wf = true ∧ (Lit.int .u64 (s0.en)).wf = true ∧ (Lit.int .u64 (s0.fa)).wf = true ∧ (Lit.int .i64 (s0.fc)).wf = true ∧ (Lit.int .u64 (s0.s0)).wf = true ∧ (Lit.int .u64 (s0.s1)).wf = true ∧ (Lit.int .u64 (s0.s2)).wf = true ∧ (Lit.int .u64 (s0.s3)).wf = true ∧ True) (f1 : Ft) (w1 : (Lit.int .u64 (f1.a)).wf = true ∧ (Lit.int .i64 (f1.c)).wf = true ∧ True) (f2 : Ft) (w2 : (Lit.int .u64 (f2.a)).wf = true ∧ (Lit.int .i64 (f2.c)).wf = true ∧ True) (a3 : Int) (w3 : (Lit.int .u64 a3).wf = true) (w : World)  :
    Calls Try.prog 6 #[s0.val, f1.val, f2.val, .int .u64 a3] w fun e w' => e = .returned (.bool true) ∧ Below w.heap.size w w' := by
  obtain ⟨r0, r1, r2, r3, t, en, i, a, c, s0, s1, s2, s3⟩ := s0
  obtain ⟨fa, fc⟩ := f1
  obtain ⟨ga, gc⟩ := f2
  clear w0 w1 w2 w3
  by_cases he : en = 0
  · subst he
    have C1 : Hid (∀ W : World, Calls Try.prog 10 #[.agg #[.int .u64 r0, .int .u64 r1, .int .u64 r2, .int .u64 r3, .int .i64 t, .int .u64 0, .bool i, .int .u64 a, .int .i64 c, .int .u64 s0, .int .u64 s1, .int .u64 s2, .int .u64 s3], .agg #[.int .u64 fa, .int .i64 fc]] W fun e w' => e = .returned (.tuple #[.agg #[.int .u64 r0, .int .u64 r1, .int .u64 r2, .int .u64 r3, .int .i64 t, .int .u64 0, .bool i, .int .u64 a, .int .i64 c, .int .u64 s0, .int .u64 s1, .int .u64 s2, .int .u64 s3], .int .i64 5]) ∧ Below W.heap.size W w') := fun W => raise_none r0 r1 r2 r3 t i a c s0 s1 s2 s3 fa fc W
    have E : ∀ W : World, (binOp .eql 28 (.agg #[.int .u64 r0, .int .u64 r1, .int .u64 r2, .int .u64 r3, .int .i64 t, .int .u64 0, .bool i, .int .u64 a, .int .i64 c, .int .u64 s0, .int .u64 s1, .int .u64 s2, .int .u64 s3]) (.agg #[.int .u64 r0, .int .u64 r1, .int .u64 r2, .int .u64 r3, .int .i64 t, .int .u64 0, .bool i, .int .u64 a, .int .i64 c, .int .u64 s0, .int .u64 s1, .int .u64 s2, .int .u64 s3])).run Try.prog W = .ok (.bool true) W := fun W => (eqS (St.mk r0 r1 r2 r3 t 0 i a c s0 s1 s2 s3) (St.mk r0 r1 r2 r3 t 0 i a c s0 s1 s2 s3) W).trans (by simp)
    have AW : Hid (∀ W : World, Calls Try.prog 8 #[] W fun e w' => e = .returned (.bool true) ∧ Below W.heap.size W w') := fun W => awake_any W
    go_enter Try.func6, Try.ntmps6
    go_wp2_with fail
    refine (C1.out _).mono ?_
    rintro e u1 ⟨rfl, hb⟩
    have B1 : Hid (Below w.heap.size w u1) := below_then (below_new (below_new (below_new (Below.refl _ _) _) _) _) hb
    have Zs1 : Hid (Blk u1 (w.heap.size) [.int .u64 r0, .int .u64 r1, .int .u64 r2, .int .u64 r3, .int .i64 t, .int .u64 0, .bool i, .int .u64 a, .int .i64 c, .int .u64 s0, .int .u64 s1, .int .u64 s2, .int .u64 s3] 28) := Blk.below (made3_0 _ _ _ _ _ _ _) hb
    clear hb C1
    go_wp2_with fail
    refine (AW.out _).mono ?_
    rintro e u2 ⟨rfl, hb⟩
    have B2 : Hid (Below w.heap.size w u2) := below_then (below_new (B1.out) _) hb
    have Zs2 : Hid (Blk u2 (w.heap.size) [.int .u64 r0, .int .u64 r1, .int .u64 r2, .int .u64 r3, .int .i64 t, .int .u64 0, .bool i, .int .u64 a, .int .i64 c, .int .u64 s0, .int .u64 s1, .int .u64 s2, .int .u64 s3] 28) := (Zs1.out.below (Go.Joins.below_alloc1 _ _)).below hb
    have Zt2 : Hid (Blk u2 (u1.heap.size) [.int .u64 r0, .int .u64 r1, .int .u64 r2, .int .u64 r3, .int .i64 t, .int .u64 0, .bool i, .int .u64 a, .int .i64 c, .int .u64 s0, .int .u64 s1, .int .u64 s2, .int .u64 s3] 28) := Blk.below (Blk.made _ _ _) hb
    clear hb B1 Zs1 AW
    have ls2 : w.heap.size < u2.heap.size := blk_lt Zs2.out
    have cs2_0 : u2.cell? ⟨w.heap.size, 0, none⟩ = some (.int .u64 r0) := Zs2.out.cell 0
    have cs2_1 : u2.cell? ⟨w.heap.size, 1, none⟩ = some (.int .u64 r1) := Zs2.out.cell 1
    have cs2_2 : u2.cell? ⟨w.heap.size, 2, none⟩ = some (.int .u64 r2) := Zs2.out.cell 2
    have cs2_3 : u2.cell? ⟨w.heap.size, 3, none⟩ = some (.int .u64 r3) := Zs2.out.cell 3
    have cs2_4 : u2.cell? ⟨w.heap.size, 4, none⟩ = some (.int .i64 t) := Zs2.out.cell 4
    have cs2_5 : u2.cell? ⟨w.heap.size, 5, none⟩ = some (.int .u64 0) := Zs2.out.cell 5
    have cs2_6 : u2.cell? ⟨w.heap.size, 6, none⟩ = some (.bool i) := Zs2.out.cell 6
    have cs2_7 : u2.cell? ⟨w.heap.size, 7, none⟩ = some (.int .u64 a) := Zs2.out.cell 7
    have cs2_8 : u2.cell? ⟨w.heap.size, 8, none⟩ = some (.int .i64 c) := Zs2.out.cell 8
    have cs2_9 : u2.cell? ⟨w.heap.size, 9, none⟩ = some (.int .u64 s0) := Zs2.out.cell 9
    have cs2_10 : u2.cell? ⟨w.heap.size, 10, none⟩ = some (.int .u64 s1) := Zs2.out.cell 10
    have cs2_11 : u2.cell? ⟨w.heap.size, 11, none⟩ = some (.int .u64 s2) := Zs2.out.cell 11
    have cs2_12 : u2.cell? ⟨w.heap.size, 12, none⟩ = some (.int .u64 s3) := Zs2.out.cell 12
    have lt2 : u1.heap.size < u2.heap.size := blk_lt Zt2.out
    have ct2_0 : u2.cell? ⟨u1.heap.size, 0, none⟩ = some (.int .u64 r0) := Zt2.out.cell 0
    have ct2_1 : u2.cell? ⟨u1.heap.size, 1, none⟩ = some (.int .u64 r1) := Zt2.out.cell 1
    have ct2_2 : u2.cell? ⟨u1.heap.size, 2, none⟩ = some (.int .u64 r2) := Zt2.out.cell 2
    have ct2_3 : u2.cell? ⟨u1.heap.size, 3, none⟩ = some (.int .u64 r3) := Zt2.out.cell 3
    have ct2_4 : u2.cell? ⟨u1.heap.size, 4, none⟩ = some (.int .i64 t) := Zt2.out.cell 4
    have ct2_5 : u2.cell? ⟨u1.heap.size, 5, none⟩ = some (.int .u64 0) := Zt2.out.cell 5
    have ct2_6 : u2.cell? ⟨u1.heap.size, 6, none⟩ = some (.bool i) := Zt2.out.cell 6
    have ct2_7 : u2.cell? ⟨u1.heap.size, 7, none⟩ = some (.int .u64 a) := Zt2.out.cell 7
    have ct2_8 : u2.cell? ⟨u1.heap.size, 8, none⟩ = some (.int .i64 c) := Zt2.out.cell 8
    have ct2_9 : u2.cell? ⟨u1.heap.size, 9, none⟩ = some (.int .u64 s0) := Zt2.out.cell 9
    have ct2_10 : u2.cell? ⟨u1.heap.size, 10, none⟩ = some (.int .u64 s1) := Zt2.out.cell 10
    have ct2_11 : u2.cell? ⟨u1.heap.size, 11, none⟩ = some (.int .u64 s2) := Zt2.out.cell 11
    have ct2_12 : u2.cell? ⟨u1.heap.size, 12, none⟩ = some (.int .u64 s3) := Zt2.out.cell 12
    go_wp2_with fail
    go_ret
    exact ⟨rfl, B2.out⟩
  cases i with
  | true =>
    have C1 : Hid (∀ W : World, Calls Try.prog 10 #[.agg #[.int .u64 r0, .int .u64 r1, .int .u64 r2, .int .u64 r3, .int .i64 t, .int .u64 en, .bool true, .int .u64 a, .int .i64 c, .int .u64 s0, .int .u64 s1, .int .u64 s2, .int .u64 s3], .agg #[.int .u64 fa, .int .i64 fc]] W fun e w' => e = .returned (.tuple #[.agg #[.int .u64 r0, .int .u64 r1, .int .u64 r2, .int .u64 r3, .int .i64 t, .int .u64 en, .bool true, .int .u64 a, .int .i64 c, .int .u64 s0, .int .u64 s1, .int .u64 s2, .int .u64 s3], .int .i64 11]) ∧ Below W.heap.size W w') := fun W => raise_busy r0 r1 r2 r3 t en a c s0 s1 s2 s3 fa fc he W
    have E : ∀ W : World, (binOp .eql 28 (.agg #[.int .u64 r0, .int .u64 r1, .int .u64 r2, .int .u64 r3, .int .i64 t, .int .u64 en, .bool true, .int .u64 a, .int .i64 c, .int .u64 s0, .int .u64 s1, .int .u64 s2, .int .u64 s3]) (.agg #[.int .u64 r0, .int .u64 r1, .int .u64 r2, .int .u64 r3, .int .i64 t, .int .u64 en, .bool true, .int .u64 a, .int .i64 c, .int .u64 s0, .int .u64 s1, .int .u64 s2, .int .u64 s3])).run Try.prog W = .ok (.bool true) W := fun W => (eqS (St.mk r0 r1 r2 r3 t en true a c s0 s1 s2 s3) (St.mk r0 r1 r2 r3 t en true a c s0 s1 s2 s3) W).trans (by simp)
    have AW : Hid (∀ W : World, Calls Try.prog 8 #[] W fun e w' => e = .returned (.bool true) ∧ Below W.heap.size W w') := fun W => awake_any W
    go_enter Try.func6, Try.ntmps6
    go_wp2_with fail
    refine (C1.out _).mono ?_
    rintro e u1 ⟨rfl, hb⟩
    have B1 : Hid (Below w.heap.size w u1) := below_then (below_new (below_new (below_new (Below.refl _ _) _) _) _) hb
    have Zs1 : Hid (Blk u1 (w.heap.size) [.int .u64 r0, .int .u64 r1, .int .u64 r2, .int .u64 r3, .int .i64 t, .int .u64 en, .bool true, .int .u64 a, .int .i64 c, .int .u64 s0, .int .u64 s1, .int .u64 s2, .int .u64 s3] 28) := Blk.below (made3_0 _ _ _ _ _ _ _) hb
    clear hb C1
    go_wp2_with fail
    refine (AW.out _).mono ?_
    rintro e u2 ⟨rfl, hb⟩
    have B2 : Hid (Below w.heap.size w u2) := below_then (below_new (B1.out) _) hb
    have Zs2 : Hid (Blk u2 (w.heap.size) [.int .u64 r0, .int .u64 r1, .int .u64 r2, .int .u64 r3, .int .i64 t, .int .u64 en, .bool true, .int .u64 a, .int .i64 c, .int .u64 s0, .int .u64 s1, .int .u64 s2, .int .u64 s3] 28) := (Zs1.out.below (Go.Joins.below_alloc1 _ _)).below hb
    have Zt2 : Hid (Blk u2 (u1.heap.size) [.int .u64 r0, .int .u64 r1, .int .u64 r2, .int .u64 r3, .int .i64 t, .int .u64 en, .bool true, .int .u64 a, .int .i64 c, .int .u64 s0, .int .u64 s1, .int .u64 s2, .int .u64 s3] 28) := Blk.below (Blk.made _ _ _) hb
    clear hb B1 Zs1 AW
    have ls2 : w.heap.size < u2.heap.size := blk_lt Zs2.out
    have cs2_0 : u2.cell? ⟨w.heap.size, 0, none⟩ = some (.int .u64 r0) := Zs2.out.cell 0
    have cs2_1 : u2.cell? ⟨w.heap.size, 1, none⟩ = some (.int .u64 r1) := Zs2.out.cell 1
    have cs2_2 : u2.cell? ⟨w.heap.size, 2, none⟩ = some (.int .u64 r2) := Zs2.out.cell 2
    have cs2_3 : u2.cell? ⟨w.heap.size, 3, none⟩ = some (.int .u64 r3) := Zs2.out.cell 3
    have cs2_4 : u2.cell? ⟨w.heap.size, 4, none⟩ = some (.int .i64 t) := Zs2.out.cell 4
    have cs2_5 : u2.cell? ⟨w.heap.size, 5, none⟩ = some (.int .u64 en) := Zs2.out.cell 5
    have cs2_6 : u2.cell? ⟨w.heap.size, 6, none⟩ = some (.bool true) := Zs2.out.cell 6
    have cs2_7 : u2.cell? ⟨w.heap.size, 7, none⟩ = some (.int .u64 a) := Zs2.out.cell 7
    have cs2_8 : u2.cell? ⟨w.heap.size, 8, none⟩ = some (.int .i64 c) := Zs2.out.cell 8
    have cs2_9 : u2.cell? ⟨w.heap.size, 9, none⟩ = some (.int .u64 s0) := Zs2.out.cell 9
    have cs2_10 : u2.cell? ⟨w.heap.size, 10, none⟩ = some (.int .u64 s1) := Zs2.out.cell 10
    have cs2_11 : u2.cell? ⟨w.heap.size, 11, none⟩ = some (.int .u64 s2) := Zs2.out.cell 11
    have cs2_12 : u2.cell? ⟨w.heap.size, 12, none⟩ = some (.int .u64 s3) := Zs2.out.cell 12
    have lt2 : u1.heap.size < u2.heap.size := blk_lt Zt2.out
    have ct2_0 : u2.cell? ⟨u1.heap.size, 0, none⟩ = some (.int .u64 r0) := Zt2.out.cell 0
    have ct2_1 : u2.cell? ⟨u1.heap.size, 1, none⟩ = some (.int .u64 r1) := Zt2.out.cell 1
    have ct2_2 : u2.cell? ⟨u1.heap.size, 2, none⟩ = some (.int .u64 r2) := Zt2.out.cell 2
    have ct2_3 : u2.cell? ⟨u1.heap.size, 3, none⟩ = some (.int .u64 r3) := Zt2.out.cell 3
    have ct2_4 : u2.cell? ⟨u1.heap.size, 4, none⟩ = some (.int .i64 t) := Zt2.out.cell 4
    have ct2_5 : u2.cell? ⟨u1.heap.size, 5, none⟩ = some (.int .u64 en) := Zt2.out.cell 5
    have ct2_6 : u2.cell? ⟨u1.heap.size, 6, none⟩ = some (.bool true) := Zt2.out.cell 6
    have ct2_7 : u2.cell? ⟨u1.heap.size, 7, none⟩ = some (.int .u64 a) := Zt2.out.cell 7
    have ct2_8 : u2.cell? ⟨u1.heap.size, 8, none⟩ = some (.int .i64 c) := Zt2.out.cell 8
    have ct2_9 : u2.cell? ⟨u1.heap.size, 9, none⟩ = some (.int .u64 s0) := Zt2.out.cell 9
    have ct2_10 : u2.cell? ⟨u1.heap.size, 10, none⟩ = some (.int .u64 s1) := Zt2.out.cell 10
    have ct2_11 : u2.cell? ⟨u1.heap.size, 11, none⟩ = some (.int .u64 s2) := Zt2.out.cell 11
    have ct2_12 : u2.cell? ⟨u1.heap.size, 12, none⟩ = some (.int .u64 s3) := Zt2.out.cell 12
    go_wp2_with fail
    go_ret
    exact ⟨rfl, B2.out⟩
  | false =>
    generalize hc : IntKind.u64.wrap fc = cc
    have C1 : Hid (∀ W : World, Calls Try.prog 10 #[.agg #[.int .u64 r0, .int .u64 r1, .int .u64 r2, .int .u64 r3, .int .i64 t, .int .u64 en, .bool false, .int .u64 a, .int .i64 c, .int .u64 s0, .int .u64 s1, .int .u64 s2, .int .u64 s3], .agg #[.int .u64 fa, .int .i64 fc]] W fun e w' => e = .returned (.tuple #[.agg #[.int .u64 fa, .int .u64 cc, .int .u64 0, .int .u64 0, .int .i64 t, .int .u64 en, .bool true, .int .u64 fa, .int .i64 fc, .int .u64 r0, .int .u64 r1, .int .u64 r2, .int .u64 r3], .int .i64 0]) ∧ Below W.heap.size W w') := fun W => raise_ok r0 r1 r2 r3 t en a c s0 s1 s2 s3 fa fc cc he hc W
    have C2 : Hid (∀ W : World, Calls Try.prog 10 #[.agg #[.int .u64 fa, .int .u64 cc, .int .u64 0, .int .u64 0, .int .i64 t, .int .u64 en, .bool true, .int .u64 fa, .int .i64 fc, .int .u64 r0, .int .u64 r1, .int .u64 r2, .int .u64 r3], .agg #[.int .u64 ga, .int .i64 gc]] W fun e w' => e = .returned (.tuple #[.agg #[.int .u64 fa, .int .u64 cc, .int .u64 0, .int .u64 0, .int .i64 t, .int .u64 en, .bool true, .int .u64 fa, .int .i64 fc, .int .u64 r0, .int .u64 r1, .int .u64 r2, .int .u64 r3], .int .i64 11]) ∧ Below W.heap.size W w') := fun W => raise_busy fa cc 0 0 t en fa fc r0 r1 r2 r3 ga gc he W
    have C3 : Hid (∀ W : World, Calls Try.prog 15 #[.agg #[.int .u64 fa, .int .u64 cc, .int .u64 0, .int .u64 0, .int .i64 t, .int .u64 en, .bool true, .int .u64 fa, .int .i64 fc, .int .u64 r0, .int .u64 r1, .int .u64 r2, .int .u64 r3], .int .u64 a3] W fun e w' => e = .returned (.tuple #[.agg #[.int .u64 fa, .int .u64 cc, .int .u64 0, .int .u64 0, .int .i64 t, .int .u64 en, .bool true, .int .u64 fa, .int .i64 fc, .int .u64 r0, .int .u64 r1, .int .u64 r2, .int .u64 r3], .int .i64 11]) ∧ Below W.heap.size W w') := fun W => handle_busy fa cc 0 0 t en fa fc r0 r1 r2 r3 a3 W
    have C4 : Hid (∀ W : World, Calls Try.prog 11 #[.agg #[.int .u64 fa, .int .u64 cc, .int .u64 0, .int .u64 0, .int .i64 t, .int .u64 en, .bool true, .int .u64 fa, .int .i64 fc, .int .u64 r0, .int .u64 r1, .int .u64 r2, .int .u64 r3]] W fun e w' => e = .returned (.tuple #[.agg #[.int .u64 r0, .int .u64 r1, .int .u64 r2, .int .u64 r3, .int .i64 t, .int .u64 en, .bool false, .int .u64 0, .int .i64 0, .int .u64 0, .int .u64 0, .int .u64 0, .int .u64 0], .int .i64 0]) ∧ Below W.heap.size W w') := fun W => return_ok fa cc 0 0 t en fa fc r0 r1 r2 r3 W
    have C5 : Hid (∀ W : World, Calls Try.prog 15 #[.agg #[.int .u64 r0, .int .u64 r1, .int .u64 r2, .int .u64 r3, .int .i64 t, .int .u64 en, .bool false, .int .u64 0, .int .i64 0, .int .u64 0, .int .u64 0, .int .u64 0, .int .u64 0], .int .u64 a3] W fun e w' => e = .returned (.tuple #[.agg #[.int .u64 r0, .int .u64 r1, .int .u64 r2, .int .u64 r3, .int .i64 t, .int .u64 a3, .bool false, .int .u64 0, .int .i64 0, .int .u64 0, .int .u64 0, .int .u64 0, .int .u64 0], .int .i64 0]) ∧ Below W.heap.size W w') := fun W => handle_ok r0 r1 r2 r3 t en 0 0 0 0 0 0 a3 W
    obtain ⟨yy, C6, q⟩ : ∃ (y : St × Int), Hid (∀ W : World, Calls Try.prog 10 #[.agg #[.int .u64 r0, .int .u64 r1, .int .u64 r2, .int .u64 r3, .int .i64 t, .int .u64 a3, .bool false, .int .u64 0, .int .i64 0, .int .u64 0, .int .u64 0, .int .u64 0, .int .u64 0], .agg #[.int .u64 ga, .int .i64 gc]] W fun e w' => e = .returned (.tuple #[y.1.val, .int .i64 y.2]) ∧ Below W.heap.size W w') ∧ (y.2 == 0) = !(a3 == 0) := by
      by_cases h3 : a3 = 0
      · subst h3
        exact ⟨⟨St.mk r0 r1 r2 r3 t 0 false 0 0 0 0 0 0, 5⟩, fun W => raise_none r0 r1 r2 r3 t false 0 0 0 0 0 0 ga gc W, by simp⟩
      · exact ⟨⟨St.mk ga (IntKind.u64.wrap gc) 0 0 t a3 true ga gc r0 r1 r2 r3, 0⟩, fun W => raise_ok r0 r1 r2 r3 t a3 0 0 0 0 0 0 ga gc _ h3 rfl W, by simpa using h3⟩
    obtain ⟨⟨y0, y1, y2, y3, y4, y5, y6, y7, y8, y9, y10, y11, y12⟩, ye⟩ := yy
    simp only at C6 q
    have E : ∀ W : World, (binOp .eql 28 (.agg #[.int .u64 fa, .int .u64 cc, .int .u64 0, .int .u64 0, .int .i64 t, .int .u64 en, .bool true, .int .u64 fa, .int .i64 fc, .int .u64 r0, .int .u64 r1, .int .u64 r2, .int .u64 r3]) (.agg #[.int .u64 fa, .int .u64 cc, .int .u64 0, .int .u64 0, .int .i64 t, .int .u64 en, .bool true, .int .u64 fa, .int .i64 fc, .int .u64 r0, .int .u64 r1, .int .u64 r2, .int .u64 r3])).run Try.prog W = .ok (.bool true) W := fun W => (eqS (St.mk fa cc 0 0 t en true fa fc r0 r1 r2 r3) (St.mk fa cc 0 0 t en true fa fc r0 r1 r2 r3) W).trans (by simp)
    have AW : Hid (∀ W : World, Calls Try.prog 8 #[] W fun e w' => e = .returned (.bool true) ∧ Below W.heap.size W w') := fun W => awake_any W
    go_enter Try.func6, Try.ntmps6
    go_wp2_with fail
    refine (C1.out _).mono ?_
    rintro e u1 ⟨rfl, hb⟩
    have B1 : Hid (Below w.heap.size w u1) := below_then (below_new (below_new (below_new (Below.refl _ _) _) _) _) hb
    have Zg1 : Hid (Blk u1 (w.heap.size + 1 + 1) [.int .u64 ga, .int .i64 gc] 26) := Blk.below (made3_2 _ _ _ _ _ _ _) hb
    clear hb C1
    have lg1 : w.heap.size + 1 + 1 < u1.heap.size := blk_lt Zg1.out
    have cg1_0 : u1.cell? ⟨w.heap.size + 1 + 1, 0, none⟩ = some (.int .u64 ga) := Zg1.out.cell 0
    have cg1_1 : u1.cell? ⟨w.heap.size + 1 + 1, 1, none⟩ = some (.int .i64 gc) := Zg1.out.cell 1
    go_wp2_with fail
    refine (C2.out _).mono ?_
    rintro e u2 ⟨rfl, hb⟩
    have B2 : Hid (Below w.heap.size w u2) := below_then (below_new (B1.out) _) hb
    have Zg2 : Hid (Blk u2 (w.heap.size + 1 + 1) [.int .u64 ga, .int .i64 gc] 26) := (Zg1.out.below (Go.Joins.below_alloc1 _ _)).below hb
    have Zt2 : Hid (Blk u2 (u1.heap.size) [.int .u64 fa, .int .u64 cc, .int .u64 0, .int .u64 0, .int .i64 t, .int .u64 en, .bool true, .int .u64 fa, .int .i64 fc, .int .u64 r0, .int .u64 r1, .int .u64 r2, .int .u64 r3] 28) := Blk.below (Blk.made _ _ _) hb
    clear hb B1 Zg1 C2
    have lg2 : w.heap.size + 1 + 1 < u2.heap.size := blk_lt Zg2.out
    have cg2_0 : u2.cell? ⟨w.heap.size + 1 + 1, 0, none⟩ = some (.int .u64 ga) := Zg2.out.cell 0
    have cg2_1 : u2.cell? ⟨w.heap.size + 1 + 1, 1, none⟩ = some (.int .i64 gc) := Zg2.out.cell 1
    have lt2 : u1.heap.size < u2.heap.size := blk_lt Zt2.out
    have ct2_0 : u2.cell? ⟨u1.heap.size, 0, none⟩ = some (.int .u64 fa) := Zt2.out.cell 0
    have ct2_1 : u2.cell? ⟨u1.heap.size, 1, none⟩ = some (.int .u64 cc) := Zt2.out.cell 1
    have ct2_2 : u2.cell? ⟨u1.heap.size, 2, none⟩ = some (.int .u64 0) := Zt2.out.cell 2
    have ct2_3 : u2.cell? ⟨u1.heap.size, 3, none⟩ = some (.int .u64 0) := Zt2.out.cell 3
    have ct2_4 : u2.cell? ⟨u1.heap.size, 4, none⟩ = some (.int .i64 t) := Zt2.out.cell 4
    have ct2_5 : u2.cell? ⟨u1.heap.size, 5, none⟩ = some (.int .u64 en) := Zt2.out.cell 5
    have ct2_6 : u2.cell? ⟨u1.heap.size, 6, none⟩ = some (.bool true) := Zt2.out.cell 6
    have ct2_7 : u2.cell? ⟨u1.heap.size, 7, none⟩ = some (.int .u64 fa) := Zt2.out.cell 7
    have ct2_8 : u2.cell? ⟨u1.heap.size, 8, none⟩ = some (.int .i64 fc) := Zt2.out.cell 8
    have ct2_9 : u2.cell? ⟨u1.heap.size, 9, none⟩ = some (.int .u64 r0) := Zt2.out.cell 9
    have ct2_10 : u2.cell? ⟨u1.heap.size, 10, none⟩ = some (.int .u64 r1) := Zt2.out.cell 10
    have ct2_11 : u2.cell? ⟨u1.heap.size, 11, none⟩ = some (.int .u64 r2) := Zt2.out.cell 11
    have ct2_12 : u2.cell? ⟨u1.heap.size, 12, none⟩ = some (.int .u64 r3) := Zt2.out.cell 12
    go_wp2_with fail
    refine (C3.out _).mono ?_
    rintro e u3 ⟨rfl, hb⟩
    have B3 : Hid (Below w.heap.size w u3) := below_then (below_new (B2.out) _) hb
    have Zg3 : Hid (Blk u3 (w.heap.size + 1 + 1) [.int .u64 ga, .int .i64 gc] 26) := (Zg2.out.below (Go.Joins.below_alloc1 _ _)).below hb
    have Zt3 : Hid (Blk u3 (u1.heap.size) [.int .u64 fa, .int .u64 cc, .int .u64 0, .int .u64 0, .int .i64 t, .int .u64 en, .bool true, .int .u64 fa, .int .i64 fc, .int .u64 r0, .int .u64 r1, .int .u64 r2, .int .u64 r3] 28) := (Zt2.out.below (Go.Joins.below_alloc1 _ _)).below hb
    have Zu3 : Hid (Blk u3 (u2.heap.size) [.int .u64 fa, .int .u64 cc, .int .u64 0, .int .u64 0, .int .i64 t, .int .u64 en, .bool true, .int .u64 fa, .int .i64 fc, .int .u64 r0, .int .u64 r1, .int .u64 r2, .int .u64 r3] 28) := Blk.below (Blk.made _ _ _) hb
    clear hb B2 Zg2 Zt2 C3
    have lg3 : w.heap.size + 1 + 1 < u3.heap.size := blk_lt Zg3.out
    have cg3_0 : u3.cell? ⟨w.heap.size + 1 + 1, 0, none⟩ = some (.int .u64 ga) := Zg3.out.cell 0
    have cg3_1 : u3.cell? ⟨w.heap.size + 1 + 1, 1, none⟩ = some (.int .i64 gc) := Zg3.out.cell 1
    have lt3 : u1.heap.size < u3.heap.size := blk_lt Zt3.out
    have ct3_0 : u3.cell? ⟨u1.heap.size, 0, none⟩ = some (.int .u64 fa) := Zt3.out.cell 0
    have ct3_1 : u3.cell? ⟨u1.heap.size, 1, none⟩ = some (.int .u64 cc) := Zt3.out.cell 1
    have ct3_2 : u3.cell? ⟨u1.heap.size, 2, none⟩ = some (.int .u64 0) := Zt3.out.cell 2
    have ct3_3 : u3.cell? ⟨u1.heap.size, 3, none⟩ = some (.int .u64 0) := Zt3.out.cell 3
    have ct3_4 : u3.cell? ⟨u1.heap.size, 4, none⟩ = some (.int .i64 t) := Zt3.out.cell 4
    have ct3_5 : u3.cell? ⟨u1.heap.size, 5, none⟩ = some (.int .u64 en) := Zt3.out.cell 5
    have ct3_6 : u3.cell? ⟨u1.heap.size, 6, none⟩ = some (.bool true) := Zt3.out.cell 6
    have ct3_7 : u3.cell? ⟨u1.heap.size, 7, none⟩ = some (.int .u64 fa) := Zt3.out.cell 7
    have ct3_8 : u3.cell? ⟨u1.heap.size, 8, none⟩ = some (.int .i64 fc) := Zt3.out.cell 8
    have ct3_9 : u3.cell? ⟨u1.heap.size, 9, none⟩ = some (.int .u64 r0) := Zt3.out.cell 9
    have ct3_10 : u3.cell? ⟨u1.heap.size, 10, none⟩ = some (.int .u64 r1) := Zt3.out.cell 10
    have ct3_11 : u3.cell? ⟨u1.heap.size, 11, none⟩ = some (.int .u64 r2) := Zt3.out.cell 11
    have ct3_12 : u3.cell? ⟨u1.heap.size, 12, none⟩ = some (.int .u64 r3) := Zt3.out.cell 12
    go_wp2_with fail
    refine (C4.out _).mono ?_
    rintro e u4 ⟨rfl, hb⟩
    have B4 : Hid (Below w.heap.size w u4) := below_then (below_new (B3.out) _) hb
    have Zg4 : Hid (Blk u4 (w.heap.size + 1 + 1) [.int .u64 ga, .int .i64 gc] 26) := (Zg3.out.below (Go.Joins.below_alloc1 _ _)).below hb
    have Zt4 : Hid (Blk u4 (u1.heap.size) [.int .u64 fa, .int .u64 cc, .int .u64 0, .int .u64 0, .int .i64 t, .int .u64 en, .bool true, .int .u64 fa, .int .i64 fc, .int .u64 r0, .int .u64 r1, .int .u64 r2, .int .u64 r3] 28) := (Zt3.out.below (Go.Joins.below_alloc1 _ _)).below hb
    have Zu4 : Hid (Blk u4 (u2.heap.size) [.int .u64 fa, .int .u64 cc, .int .u64 0, .int .u64 0, .int .i64 t, .int .u64 en, .bool true, .int .u64 fa, .int .i64 fc, .int .u64 r0, .int .u64 r1, .int .u64 r2, .int .u64 r3] 28) := (Zu3.out.below (Go.Joins.below_alloc1 _ _)).below hb
    have Zv4 : Hid (Blk u4 (u3.heap.size) [.int .u64 fa, .int .u64 cc, .int .u64 0, .int .u64 0, .int .i64 t, .int .u64 en, .bool true, .int .u64 fa, .int .i64 fc, .int .u64 r0, .int .u64 r1, .int .u64 r2, .int .u64 r3] 28) := Blk.below (Blk.made _ _ _) hb
    clear hb B3 Zg3 Zt3 Zu3 C4
    have lg4 : w.heap.size + 1 + 1 < u4.heap.size := blk_lt Zg4.out
    have cg4_0 : u4.cell? ⟨w.heap.size + 1 + 1, 0, none⟩ = some (.int .u64 ga) := Zg4.out.cell 0
    have cg4_1 : u4.cell? ⟨w.heap.size + 1 + 1, 1, none⟩ = some (.int .i64 gc) := Zg4.out.cell 1
    go_wp2_with fail
    refine (C5.out _).mono ?_
    rintro e u5 ⟨rfl, hb⟩
    have B5 : Hid (Below w.heap.size w u5) := below_then (below_new (B4.out) _) hb
    have Zg5 : Hid (Blk u5 (w.heap.size + 1 + 1) [.int .u64 ga, .int .i64 gc] 26) := (Zg4.out.below (Go.Joins.below_alloc1 _ _)).below hb
    have Zt5 : Hid (Blk u5 (u1.heap.size) [.int .u64 fa, .int .u64 cc, .int .u64 0, .int .u64 0, .int .i64 t, .int .u64 en, .bool true, .int .u64 fa, .int .i64 fc, .int .u64 r0, .int .u64 r1, .int .u64 r2, .int .u64 r3] 28) := (Zt4.out.below (Go.Joins.below_alloc1 _ _)).below hb
    have Zu5 : Hid (Blk u5 (u2.heap.size) [.int .u64 fa, .int .u64 cc, .int .u64 0, .int .u64 0, .int .i64 t, .int .u64 en, .bool true, .int .u64 fa, .int .i64 fc, .int .u64 r0, .int .u64 r1, .int .u64 r2, .int .u64 r3] 28) := (Zu4.out.below (Go.Joins.below_alloc1 _ _)).below hb
    have Zv5 : Hid (Blk u5 (u3.heap.size) [.int .u64 fa, .int .u64 cc, .int .u64 0, .int .u64 0, .int .i64 t, .int .u64 en, .bool true, .int .u64 fa, .int .i64 fc, .int .u64 r0, .int .u64 r1, .int .u64 r2, .int .u64 r3] 28) := (Zv4.out.below (Go.Joins.below_alloc1 _ _)).below hb
    clear hb B4 Zg4 Zt4 Zu4 Zv4 C5
    have lg5 : w.heap.size + 1 + 1 < u5.heap.size := blk_lt Zg5.out
    have cg5_0 : u5.cell? ⟨w.heap.size + 1 + 1, 0, none⟩ = some (.int .u64 ga) := Zg5.out.cell 0
    have cg5_1 : u5.cell? ⟨w.heap.size + 1 + 1, 1, none⟩ = some (.int .i64 gc) := Zg5.out.cell 1
    go_wp2_with fail
    refine (C6.out _).mono ?_
    rintro e u6 ⟨rfl, hb⟩
    have B6 : Hid (Below w.heap.size w u6) := below_then (below_new (B5.out) _) hb
    have Zt6 : Hid (Blk u6 (u1.heap.size) [.int .u64 fa, .int .u64 cc, .int .u64 0, .int .u64 0, .int .i64 t, .int .u64 en, .bool true, .int .u64 fa, .int .i64 fc, .int .u64 r0, .int .u64 r1, .int .u64 r2, .int .u64 r3] 28) := (Zt5.out.below (Go.Joins.below_alloc1 _ _)).below hb
    have Zu6 : Hid (Blk u6 (u2.heap.size) [.int .u64 fa, .int .u64 cc, .int .u64 0, .int .u64 0, .int .i64 t, .int .u64 en, .bool true, .int .u64 fa, .int .i64 fc, .int .u64 r0, .int .u64 r1, .int .u64 r2, .int .u64 r3] 28) := (Zu5.out.below (Go.Joins.below_alloc1 _ _)).below hb
    have Zv6 : Hid (Blk u6 (u3.heap.size) [.int .u64 fa, .int .u64 cc, .int .u64 0, .int .u64 0, .int .i64 t, .int .u64 en, .bool true, .int .u64 fa, .int .i64 fc, .int .u64 r0, .int .u64 r1, .int .u64 r2, .int .u64 r3] 28) := (Zv5.out.below (Go.Joins.below_alloc1 _ _)).below hb
    have Zx6 : Hid (Blk u6 (u5.heap.size) [.int .u64 r0, .int .u64 r1, .int .u64 r2, .int .u64 r3, .int .i64 t, .int .u64 a3, .bool false, .int .u64 0, .int .i64 0, .int .u64 0, .int .u64 0, .int .u64 0, .int .u64 0] 28) := Blk.below (Blk.made _ _ _) hb
    clear hb B5 Zg5 Zt5 Zu5 Zv5 C6
    go_wp2_with fail
    refine (AW.out _).mono ?_
    rintro e u7 ⟨rfl, hb⟩
    have B7 : Hid (Below w.heap.size w u7) := below_then (below_new (B6.out) _) hb
    have Zt7 : Hid (Blk u7 (u1.heap.size) [.int .u64 fa, .int .u64 cc, .int .u64 0, .int .u64 0, .int .i64 t, .int .u64 en, .bool true, .int .u64 fa, .int .i64 fc, .int .u64 r0, .int .u64 r1, .int .u64 r2, .int .u64 r3] 28) := (Zt6.out.below (Go.Joins.below_alloc1 _ _)).below hb
    have Zu7 : Hid (Blk u7 (u2.heap.size) [.int .u64 fa, .int .u64 cc, .int .u64 0, .int .u64 0, .int .i64 t, .int .u64 en, .bool true, .int .u64 fa, .int .i64 fc, .int .u64 r0, .int .u64 r1, .int .u64 r2, .int .u64 r3] 28) := (Zu6.out.below (Go.Joins.below_alloc1 _ _)).below hb
    have Zv7 : Hid (Blk u7 (u3.heap.size) [.int .u64 fa, .int .u64 cc, .int .u64 0, .int .u64 0, .int .i64 t, .int .u64 en, .bool true, .int .u64 fa, .int .i64 fc, .int .u64 r0, .int .u64 r1, .int .u64 r2, .int .u64 r3] 28) := (Zv6.out.below (Go.Joins.below_alloc1 _ _)).below hb
    have Zx7 : Hid (Blk u7 (u5.heap.size) [.int .u64 r0, .int .u64 r1, .int .u64 r2, .int .u64 r3, .int .i64 t, .int .u64 a3, .bool false, .int .u64 0, .int .i64 0, .int .u64 0, .int .u64 0, .int .u64 0, .int .u64 0] 28) := (Zx6.out.below (Go.Joins.below_alloc1 _ _)).below hb
    clear hb B6 Zt6 Zu6 Zv6 Zx6 AW
    have lt7 : u1.heap.size < u7.heap.size := blk_lt Zt7.out
    have ct7_0 : u7.cell? ⟨u1.heap.size, 0, none⟩ = some (.int .u64 fa) := Zt7.out.cell 0
    have ct7_1 : u7.cell? ⟨u1.heap.size, 1, none⟩ = some (.int .u64 cc) := Zt7.out.cell 1
    have ct7_2 : u7.cell? ⟨u1.heap.size, 2, none⟩ = some (.int .u64 0) := Zt7.out.cell 2
    have ct7_3 : u7.cell? ⟨u1.heap.size, 3, none⟩ = some (.int .u64 0) := Zt7.out.cell 3
    have ct7_4 : u7.cell? ⟨u1.heap.size, 4, none⟩ = some (.int .i64 t) := Zt7.out.cell 4
    have ct7_5 : u7.cell? ⟨u1.heap.size, 5, none⟩ = some (.int .u64 en) := Zt7.out.cell 5
    have ct7_6 : u7.cell? ⟨u1.heap.size, 6, none⟩ = some (.bool true) := Zt7.out.cell 6
    have ct7_7 : u7.cell? ⟨u1.heap.size, 7, none⟩ = some (.int .u64 fa) := Zt7.out.cell 7
    have ct7_8 : u7.cell? ⟨u1.heap.size, 8, none⟩ = some (.int .i64 fc) := Zt7.out.cell 8
    have ct7_9 : u7.cell? ⟨u1.heap.size, 9, none⟩ = some (.int .u64 r0) := Zt7.out.cell 9
    have ct7_10 : u7.cell? ⟨u1.heap.size, 10, none⟩ = some (.int .u64 r1) := Zt7.out.cell 10
    have ct7_11 : u7.cell? ⟨u1.heap.size, 11, none⟩ = some (.int .u64 r2) := Zt7.out.cell 11
    have ct7_12 : u7.cell? ⟨u1.heap.size, 12, none⟩ = some (.int .u64 r3) := Zt7.out.cell 12
    have lu7 : u2.heap.size < u7.heap.size := blk_lt Zu7.out
    have cu7_0 : u7.cell? ⟨u2.heap.size, 0, none⟩ = some (.int .u64 fa) := Zu7.out.cell 0
    have cu7_1 : u7.cell? ⟨u2.heap.size, 1, none⟩ = some (.int .u64 cc) := Zu7.out.cell 1
    have cu7_2 : u7.cell? ⟨u2.heap.size, 2, none⟩ = some (.int .u64 0) := Zu7.out.cell 2
    have cu7_3 : u7.cell? ⟨u2.heap.size, 3, none⟩ = some (.int .u64 0) := Zu7.out.cell 3
    have cu7_4 : u7.cell? ⟨u2.heap.size, 4, none⟩ = some (.int .i64 t) := Zu7.out.cell 4
    have cu7_5 : u7.cell? ⟨u2.heap.size, 5, none⟩ = some (.int .u64 en) := Zu7.out.cell 5
    have cu7_6 : u7.cell? ⟨u2.heap.size, 6, none⟩ = some (.bool true) := Zu7.out.cell 6
    have cu7_7 : u7.cell? ⟨u2.heap.size, 7, none⟩ = some (.int .u64 fa) := Zu7.out.cell 7
    have cu7_8 : u7.cell? ⟨u2.heap.size, 8, none⟩ = some (.int .i64 fc) := Zu7.out.cell 8
    have cu7_9 : u7.cell? ⟨u2.heap.size, 9, none⟩ = some (.int .u64 r0) := Zu7.out.cell 9
    have cu7_10 : u7.cell? ⟨u2.heap.size, 10, none⟩ = some (.int .u64 r1) := Zu7.out.cell 10
    have cu7_11 : u7.cell? ⟨u2.heap.size, 11, none⟩ = some (.int .u64 r2) := Zu7.out.cell 11
    have cu7_12 : u7.cell? ⟨u2.heap.size, 12, none⟩ = some (.int .u64 r3) := Zu7.out.cell 12
    have lv7 : u3.heap.size < u7.heap.size := blk_lt Zv7.out
    have cv7_0 : u7.cell? ⟨u3.heap.size, 0, none⟩ = some (.int .u64 fa) := Zv7.out.cell 0
    have cv7_1 : u7.cell? ⟨u3.heap.size, 1, none⟩ = some (.int .u64 cc) := Zv7.out.cell 1
    have cv7_2 : u7.cell? ⟨u3.heap.size, 2, none⟩ = some (.int .u64 0) := Zv7.out.cell 2
    have cv7_3 : u7.cell? ⟨u3.heap.size, 3, none⟩ = some (.int .u64 0) := Zv7.out.cell 3
    have cv7_4 : u7.cell? ⟨u3.heap.size, 4, none⟩ = some (.int .i64 t) := Zv7.out.cell 4
    have cv7_5 : u7.cell? ⟨u3.heap.size, 5, none⟩ = some (.int .u64 en) := Zv7.out.cell 5
    have cv7_6 : u7.cell? ⟨u3.heap.size, 6, none⟩ = some (.bool true) := Zv7.out.cell 6
    have cv7_7 : u7.cell? ⟨u3.heap.size, 7, none⟩ = some (.int .u64 fa) := Zv7.out.cell 7
    have cv7_8 : u7.cell? ⟨u3.heap.size, 8, none⟩ = some (.int .i64 fc) := Zv7.out.cell 8
    have cv7_9 : u7.cell? ⟨u3.heap.size, 9, none⟩ = some (.int .u64 r0) := Zv7.out.cell 9
    have cv7_10 : u7.cell? ⟨u3.heap.size, 10, none⟩ = some (.int .u64 r1) := Zv7.out.cell 10
    have cv7_11 : u7.cell? ⟨u3.heap.size, 11, none⟩ = some (.int .u64 r2) := Zv7.out.cell 11
    have cv7_12 : u7.cell? ⟨u3.heap.size, 12, none⟩ = some (.int .u64 r3) := Zv7.out.cell 12
    have lx7 : u5.heap.size < u7.heap.size := blk_lt Zx7.out
    have cx7_0 : u7.cell? ⟨u5.heap.size, 0, none⟩ = some (.int .u64 r0) := Zx7.out.cell 0
    have cx7_1 : u7.cell? ⟨u5.heap.size, 1, none⟩ = some (.int .u64 r1) := Zx7.out.cell 1
    have cx7_2 : u7.cell? ⟨u5.heap.size, 2, none⟩ = some (.int .u64 r2) := Zx7.out.cell 2
    have cx7_3 : u7.cell? ⟨u5.heap.size, 3, none⟩ = some (.int .u64 r3) := Zx7.out.cell 3
    have cx7_4 : u7.cell? ⟨u5.heap.size, 4, none⟩ = some (.int .i64 t) := Zx7.out.cell 4
    have cx7_5 : u7.cell? ⟨u5.heap.size, 5, none⟩ = some (.int .u64 a3) := Zx7.out.cell 5
    have cx7_6 : u7.cell? ⟨u5.heap.size, 6, none⟩ = some (.bool false) := Zx7.out.cell 6
    have cx7_7 : u7.cell? ⟨u5.heap.size, 7, none⟩ = some (.int .u64 0) := Zx7.out.cell 7
    have cx7_8 : u7.cell? ⟨u5.heap.size, 8, none⟩ = some (.int .i64 0) := Zx7.out.cell 8
    have cx7_9 : u7.cell? ⟨u5.heap.size, 9, none⟩ = some (.int .u64 0) := Zx7.out.cell 9
    have cx7_10 : u7.cell? ⟨u5.heap.size, 10, none⟩ = some (.int .u64 0) := Zx7.out.cell 10
    have cx7_11 : u7.cell? ⟨u5.heap.size, 11, none⟩ = some (.int .u64 0) := Zx7.out.cell 11
    have cx7_12 : u7.cell? ⟨u5.heap.size, 12, none⟩ = some (.int .u64 0) := Zx7.out.cell 12
    go_wp2_with fail
    go_ret
    exact ⟨by simp [q, bne], B7.out⟩

theorem own : ownKnob Try.prog.godebug = none := by kernel_rfl
theorem laidOut : laidOutB Try.prog = true := by kernel_rfl
set_option maxRecDepth 100000 in
theorem lifted (os : Os) (started : os.Started) (H : Type) (enc : TypeId × Value → H) :
    ReturnsInHanded {} Try.checked os 6 .any (Rows.trapOnceSpec.pre6 enc Try.prog Try.f6 Rows.trapOnceRow.domain false) (Rows.trapOnceSpec.post enc Try.prog Try.f6 false true false false) := by
  refine returnsInHanded_of_change (C := Try.checked) own started (by kernel_rfl) Try.func6
    (ChangeSpec.witness6 (enc := enc) (C := Try.checked) false ⟨#[], #[.agg #[.int .u64 0, .int .u64 0, .int .u64 0, .int .u64 0, .int .i64 0, .int .u64 0, .bool false, .int .u64 0, .int .i64 0, .int .u64 0, .int .u64 0, .int .u64 0, .int .u64 0], .agg #[.int .u64 0, .int .i64 0], .agg #[.int .u64 0, .int .i64 0], .int .u64 0], []⟩ 8 (by kernel_rfl) (by kernel_rfl) (by kernel_rfl) (by kernel_rfl)) ?_
  intro W base args ds gs before hval0 hW hcnd _
  have hval : ∀ (j : Nat) t v, Try.f6.params[j]? = some t → args[j]? = some v → Value.okWide Try.prog W .any base t v := hval0
  have hW' := hW
  obtain ⟨p, q, hA0, hV, hbef, hfz, hnd⟩ := hW
  have hA : DataW.TrodAll enc Try.prog W 0 (fun _ => true) true Try.f6.params.toList args.toList ds p := hA0
  have hAk := hA
  have hlt : ∀ x ∈ p, x.block < W.heap.size := fun x hx => hW'.lt x (by rw [hbef]; exact List.mem_append_left _ hx)
  rw [Try.params6] at hA hval
  obtain ⟨v0, vs0, d0, ds0, p0, q0, hargs, rfl, hp0, h0, r0⟩ := trodAll_cons hA
  obtain ⟨v1, vs1, d1, ds1, p1, q1, rfl, rfl, hp1, h1, r1⟩ := trodAll_cons r0
  obtain ⟨v2, vs2, d2, ds2, p2, q2, rfl, rfl, hp2, h2, r2⟩ := trodAll_cons r1
  obtain ⟨v3, vs3, d3, ds3, p3, q3, rfl, rfl, hp3, h3, r3⟩ := trodAll_cons r2
  obtain ⟨rfl, rfl, hpz⟩ := trodAll_nil r3
  obtain rfl : args = #[v0, v1, v2, v3] := by cases args; simp_all
  obtain ⟨rfl, rfl⟩ := trodVars_none hV
  obtain ⟨s0, rfl, w0⟩ := open_st (hval 0 28 v0 rfl rfl) h0
  obtain ⟨f1, rfl, w1⟩ := open_ft (hval 1 26 v1 rfl rfl) h1
  obtain ⟨f2, rfl, w2⟩ := open_ft (hval 2 26 v2 rfl rfl) h2
  obtain ⟨a3, rfl, _, _, w3⟩ := open_int Try.underlying22 (hval 3 22 v3 rfl rfl) h3
  clear hA0 hval0
  refine (walk s0 w0 f1 w1 f2 w2 a3 w3 W ).mono fun e W' ⟨he, hg⟩ => ?_
  subst he
  exact ⟨_, rfl, ⟨_, _, _, [], p, [], hW', (trodAll_cons_mk (shut_bool Try.underlying4 _) trodAll_mk0), args_stay laidOut hg (by kernel_rfl) hAk hlt, rfl, hg.frame _, fun h => by cases h⟩⟩

theorem over : Rows.trapOnceRow.holds Try.pinned (OpenSpec.ofChange Rows.trapOnceSpec) :=
  OpenClaim.holds_of_wide 6 Try.f6 rfl rfl rfl rfl rfl rfl rfl ⟨rfl, rfl, rfl, rfl, rfl⟩ rfl rfl rfl rfl rfl (by kernel_rfl) Try.func6 (by kernel_rfl)
    (of_decide_eq_true (by kernel_rfl)) (by unfold Func.isWrapper; first | (rw [if_pos (by decide +kernel)]; kernel_rfl) | (rw [if_neg (by decide +kernel)]; exact ⟨rfl, rfl⟩))
    (fun os started H enc _ => lifted os started H enc)

theorem proved : Rows.TrapOnceSaid :=
  over
#print axioms proved
end Go.Proofs.Ytcieglidghnidaa.trapOnce
