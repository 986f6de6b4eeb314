/- A call of the laws on both. -/
import Derived.Test.YtcieglidghnidaaAT
namespace Go.Proofs.Ytcieglidghnidaa
open Go.ChangeShapes Go.WideShapes Go.ChangeAt Go.RowKit Go.Maps
set_option linter.unusedSimpArgs false
set_option linter.unusedVariables false
set_option maxRecDepth 8000

set_option maxHeartbeats 32000000 in
theorem does_all (S X : St) (A : Ac) (hs : S.wf) (hx : X.wf) (w : World) (R : Ending) (hR : R = .returned (.tuple #[(actS S A).val, (actS X A).val, .bool (decide (actE S A = actE X A ∧ actS S A = actS X A))])) (vs vx va : Value) (ves : vs = S.val) (vex : vx = X.val) (vea : va = A.val) : Calls Try.prog 9 #[vs, vx, va] w fun e w' => e = R ∧ Below w.heap.size w w' := by
  have hS : Hid S.wf := hs
  have hX : Hid X.wf := hx
  have HR : Hid (R = .returned (.tuple #[(actS S A).val, (actS X A).val, .bool (decide (actE S A = actE X A ∧ actS S A = actS X A))])) := hR
  clear hs hx hR
  obtain ⟨S0, hq⟩ : ∃ S0 : St, S0 = S := ⟨S, rfl⟩
  obtain ⟨r0, r1, r2, r3, t, en, i, fa, fc, p0, p1, p2, p3⟩ := S0
  have HQS : Hid (S = ⟨r0, r1, r2, r3, t, en, i, fa, fc, p0, p1, p2, p3⟩) := hq.symm
  clear hq
  obtain ⟨S0, hq⟩ : ∃ S0 : St, S0 = X := ⟨X, rfl⟩
  obtain ⟨x0, x1, x2, x3, x4, x5, x6, x7, x8, x9, x10, x11, x12⟩ := S0
  have HQX : Hid (X = ⟨x0, x1, x2, x3, x4, x5, x6, x7, x8, x9, x10, x11, x12⟩) := hq.symm
  clear hq
  obtain ⟨A0, hq⟩ : ∃ A0 : Ac, A0 = A := ⟨A, rfl⟩
  obtain ⟨kd, op, a, b, d, x, ga, gc⟩ := A0
  have HA : Hid (A = ⟨kd, op, a, b, d, x, ga, gc⟩) := hq.symm
  clear hq
  rw [HQS.out] at ves
  rw [HQX.out] at vex
  rw [HA.out] at vea
  subst ves vex vea
  have Zs1 : Hid (Blk (((((w.alloc (.cells #[.int .u64 r0, .int .u64 r1, .int .u64 r2, .int .u64 r3, .int .i64 t, .int .u64 en, .bool i, .int .u64 fa, .int .i64 fc, .int .u64 p0, .int .u64 p1, .int .u64 p2, .int .u64 p3] 28)).alloc (.cells #[.int .u64 x0, .int .u64 x1, .int .u64 x2, .int .u64 x3, .int .i64 x4, .int .u64 x5, .bool x6, .int .u64 x7, .int .i64 x8, .int .u64 x9, .int .u64 x10, .int .u64 x11, .int .u64 x12] 31)).alloc (.cells #[.int .i64 kd, .int .i64 op, .int .i64 a, .int .i64 b, .int .i64 d, .int .u64 x, .int .u64 ga, .int .i64 gc] 37)).alloc (.cells #[.int .u64 0, .int .u64 0, .int .u64 0, .int .u64 0, .int .i64 0, .int .u64 0, .bool false, .int .u64 0, .int .i64 0, .int .u64 0, .int .u64 0, .int .u64 0, .int .u64 0] 28)).alloc (.cells #[.int .u64 0, .int .u64 0, .int .u64 0, .int .u64 0, .int .i64 0, .int .u64 0, .bool false, .int .u64 0, .int .i64 0, .int .u64 0, .int .u64 0, .int .u64 0, .int .u64 0] 31)) (w.heap.size) [.int .u64 r0, .int .u64 r1, .int .u64 r2, .int .u64 r3, .int .i64 t, .int .u64 en, .bool i, .int .u64 fa, .int .i64 fc, .int .u64 p0, .int .u64 p1, .int .u64 p2, .int .u64 p3] 28) := (made3_0 w _ _ _ _ _ _).below (Go.Joins.below_alloc2 _ _ _)
  have Zx1 : Hid (Blk (((((w.alloc (.cells #[.int .u64 r0, .int .u64 r1, .int .u64 r2, .int .u64 r3, .int .i64 t, .int .u64 en, .bool i, .int .u64 fa, .int .i64 fc, .int .u64 p0, .int .u64 p1, .int .u64 p2, .int .u64 p3] 28)).alloc (.cells #[.int .u64 x0, .int .u64 x1, .int .u64 x2, .int .u64 x3, .int .i64 x4, .int .u64 x5, .bool x6, .int .u64 x7, .int .i64 x8, .int .u64 x9, .int .u64 x10, .int .u64 x11, .int .u64 x12] 31)).alloc (.cells #[.int .i64 kd, .int .i64 op, .int .i64 a, .int .i64 b, .int .i64 d, .int .u64 x, .int .u64 ga, .int .i64 gc] 37)).alloc (.cells #[.int .u64 0, .int .u64 0, .int .u64 0, .int .u64 0, .int .i64 0, .int .u64 0, .bool false, .int .u64 0, .int .i64 0, .int .u64 0, .int .u64 0, .int .u64 0, .int .u64 0] 28)).alloc (.cells #[.int .u64 0, .int .u64 0, .int .u64 0, .int .u64 0, .int .i64 0, .int .u64 0, .bool false, .int .u64 0, .int .i64 0, .int .u64 0, .int .u64 0, .int .u64 0, .int .u64 0] 31)) (w.heap.size + 1) [.int .u64 x0, .int .u64 x1, .int .u64 x2, .int .u64 x3, .int .i64 x4, .int .u64 x5, .bool x6, .int .u64 x7, .int .i64 x8, .int .u64 x9, .int .u64 x10, .int .u64 x11, .int .u64 x12] 31) := (made3_1 w _ _ _ _ _ _).below (Go.Joins.below_alloc2 _ _ _)
  have Za1 : Hid (Blk (((((w.alloc (.cells #[.int .u64 r0, .int .u64 r1, .int .u64 r2, .int .u64 r3, .int .i64 t, .int .u64 en, .bool i, .int .u64 fa, .int .i64 fc, .int .u64 p0, .int .u64 p1, .int .u64 p2, .int .u64 p3] 28)).alloc (.cells #[.int .u64 x0, .int .u64 x1, .int .u64 x2, .int .u64 x3, .int .i64 x4, .int .u64 x5, .bool x6, .int .u64 x7, .int .i64 x8, .int .u64 x9, .int .u64 x10, .int .u64 x11, .int .u64 x12] 31)).alloc (.cells #[.int .i64 kd, .int .i64 op, .int .i64 a, .int .i64 b, .int .i64 d, .int .u64 x, .int .u64 ga, .int .i64 gc] 37)).alloc (.cells #[.int .u64 0, .int .u64 0, .int .u64 0, .int .u64 0, .int .i64 0, .int .u64 0, .bool false, .int .u64 0, .int .i64 0, .int .u64 0, .int .u64 0, .int .u64 0, .int .u64 0] 28)).alloc (.cells #[.int .u64 0, .int .u64 0, .int .u64 0, .int .u64 0, .int .i64 0, .int .u64 0, .bool false, .int .u64 0, .int .i64 0, .int .u64 0, .int .u64 0, .int .u64 0, .int .u64 0] 31)) (w.heap.size + 1 + 1) [.int .i64 kd, .int .i64 op, .int .i64 a, .int .i64 b, .int .i64 d, .int .u64 x, .int .u64 ga, .int .i64 gc] 37) := (made3_2 w _ _ _ _ _ _).below (Go.Joins.below_alloc2 _ _ _)
  have Zg1 : Hid (Blk (((((w.alloc (.cells #[.int .u64 r0, .int .u64 r1, .int .u64 r2, .int .u64 r3, .int .i64 t, .int .u64 en, .bool i, .int .u64 fa, .int .i64 fc, .int .u64 p0, .int .u64 p1, .int .u64 p2, .int .u64 p3] 28)).alloc (.cells #[.int .u64 x0, .int .u64 x1, .int .u64 x2, .int .u64 x3, .int .i64 x4, .int .u64 x5, .bool x6, .int .u64 x7, .int .i64 x8, .int .u64 x9, .int .u64 x10, .int .u64 x11, .int .u64 x12] 31)).alloc (.cells #[.int .i64 kd, .int .i64 op, .int .i64 a, .int .i64 b, .int .i64 d, .int .u64 x, .int .u64 ga, .int .i64 gc] 37)).alloc (.cells #[.int .u64 0, .int .u64 0, .int .u64 0, .int .u64 0, .int .i64 0, .int .u64 0, .bool false, .int .u64 0, .int .i64 0, .int .u64 0, .int .u64 0, .int .u64 0, .int .u64 0] 28)).alloc (.cells #[.int .u64 0, .int .u64 0, .int .u64 0, .int .u64 0, .int .i64 0, .int .u64 0, .bool false, .int .u64 0, .int .i64 0, .int .u64 0, .int .u64 0, .int .u64 0, .int .u64 0] 31)) (w.heap.size + 1 + 1 + 1) [.int .u64 0, .int .u64 0, .int .u64 0, .int .u64 0, .int .i64 0, .int .u64 0, .bool false, .int .u64 0, .int .i64 0, .int .u64 0, .int .u64 0, .int .u64 0, .int .u64 0] 28) := made5_3 w _ _ _ _ _ _ _
  have Zh1 : Hid (Blk (((((w.alloc (.cells #[.int .u64 r0, .int .u64 r1, .int .u64 r2, .int .u64 r3, .int .i64 t, .int .u64 en, .bool i, .int .u64 fa, .int .i64 fc, .int .u64 p0, .int .u64 p1, .int .u64 p2, .int .u64 p3] 28)).alloc (.cells #[.int .u64 x0, .int .u64 x1, .int .u64 x2, .int .u64 x3, .int .i64 x4, .int .u64 x5, .bool x6, .int .u64 x7, .int .i64 x8, .int .u64 x9, .int .u64 x10, .int .u64 x11, .int .u64 x12] 31)).alloc (.cells #[.int .i64 kd, .int .i64 op, .int .i64 a, .int .i64 b, .int .i64 d, .int .u64 x, .int .u64 ga, .int .i64 gc] 37)).alloc (.cells #[.int .u64 0, .int .u64 0, .int .u64 0, .int .u64 0, .int .i64 0, .int .u64 0, .bool false, .int .u64 0, .int .i64 0, .int .u64 0, .int .u64 0, .int .u64 0, .int .u64 0] 28)).alloc (.cells #[.int .u64 0, .int .u64 0, .int .u64 0, .int .u64 0, .int .i64 0, .int .u64 0, .bool false, .int .u64 0, .int .i64 0, .int .u64 0, .int .u64 0, .int .u64 0, .int .u64 0] 31)) (w.heap.size + 1 + 1 + 1 + 1) [.int .u64 0, .int .u64 0, .int .u64 0, .int .u64 0, .int .i64 0, .int .u64 0, .bool false, .int .u64 0, .int .i64 0, .int .u64 0, .int .u64 0, .int .u64 0, .int .u64 0] 31) := made5_4 w _ _ _ _ _ _ _
  have B1 : Hid (Below w.heap.size w (((((w.alloc (.cells #[.int .u64 r0, .int .u64 r1, .int .u64 r2, .int .u64 r3, .int .i64 t, .int .u64 en, .bool i, .int .u64 fa, .int .i64 fc, .int .u64 p0, .int .u64 p1, .int .u64 p2, .int .u64 p3] 28)).alloc (.cells #[.int .u64 x0, .int .u64 x1, .int .u64 x2, .int .u64 x3, .int .i64 x4, .int .u64 x5, .bool x6, .int .u64 x7, .int .i64 x8, .int .u64 x9, .int .u64 x10, .int .u64 x11, .int .u64 x12] 31)).alloc (.cells #[.int .i64 kd, .int .i64 op, .int .i64 a, .int .i64 b, .int .i64 d, .int .u64 x, .int .u64 ga, .int .i64 gc] 37)).alloc (.cells #[.int .u64 0, .int .u64 0, .int .u64 0, .int .u64 0, .int .i64 0, .int .u64 0, .bool false, .int .u64 0, .int .i64 0, .int .u64 0, .int .u64 0, .int .u64 0, .int .u64 0] 28)).alloc (.cells #[.int .u64 0, .int .u64 0, .int .u64 0, .int .u64 0, .int .i64 0, .int .u64 0, .bool false, .int .u64 0, .int .i64 0, .int .u64 0, .int .u64 0, .int .u64 0, .int .u64 0] 31))) := by show Below _ _ _; repeat (first | exact Below.refl _ _ | refine below_new ?_ _)
  go_enter Try.func9, Try.ntmps9
  go_upto_block 0 with fail
  generalize ((((w.alloc (.cells #[.int .u64 r0, .int .u64 r1, .int .u64 r2, .int .u64 r3, .int .i64 t, .int .u64 en, .bool i, .int .u64 fa, .int .i64 fc, .int .u64 p0, .int .u64 p1, .int .u64 p2, .int .u64 p3] 28)).alloc (.cells #[.int .u64 x0, .int .u64 x1, .int .u64 x2, .int .u64 x3, .int .i64 x4, .int .u64 x5, .bool x6, .int .u64 x7, .int .i64 x8, .int .u64 x9, .int .u64 x10, .int .u64 x11, .int .u64 x12] 31)).alloc (.cells #[.int .i64 kd, .int .i64 op, .int .i64 a, .int .i64 b, .int .i64 d, .int .u64 x, .int .u64 ga, .int .i64 gc] 37)).alloc (.cells #[.int .u64 0, .int .u64 0, .int .u64 0, .int .u64 0, .int .i64 0, .int .u64 0, .bool false, .int .u64 0, .int .i64 0, .int .u64 0, .int .u64 0, .int .u64 0, .int .u64 0] 28)).alloc (.cells #[.int .u64 0, .int .u64 0, .int .u64 0, .int .u64 0, .int .i64 0, .int .u64 0, .bool false, .int .u64 0, .int .i64 0, .int .u64 0, .int .u64 0, .int .u64 0, .int .u64 0] 31) = u1 at Zs1 Zx1 Za1 Zg1 Zh1 B1 ⊢
  have k0 : u1.cell? ⟨w.heap.size + 1 + 1, 0, none⟩ = some (.int .i64 kd) := Za1.out.cell 0
  go_cut [9, 10, 13] (fun e f _ W => ∃ (s2 x2 : St) (E F : Int), e = .int .i64 E ∧ f = .int .i64 F ∧ Hid (s2 = actS S A ∧ x2 = actS X A ∧ E = actE S A ∧ F = actE X A) ∧ Hid (Blk W (w.heap.size) s2.cells 28) ∧ Hid (Blk W (w.heap.size + 1) x2.cells 31) ∧ Hid (Blk W (w.heap.size + 1 + 1 + 1) [.int .u64 0, .int .u64 0, .int .u64 0, .int .u64 0, .int .i64 0, .int .u64 0, .bool false, .int .u64 0, .int .i64 0, .int .u64 0, .int .u64 0, .int .u64 0, .int .u64 0] 28) ∧ Hid (Blk W (w.heap.size + 1 + 1 + 1 + 1) [.int .u64 0, .int .u64 0, .int .u64 0, .int .u64 0, .int .i64 0, .int .u64 0, .bool false, .int .u64 0, .int .i64 0, .int .u64 0, .int .u64 0, .int .u64 0, .int .u64 0] 31) ∧ Hid (Below w.heap.size w W))
  case first =>
    by_cases c1 : kd = 1
    · subst c1
      obtain ⟨ys, ye, Cy, qy⟩ : ∃ (y : St) (e0 : Int), Hid (∀ W : World, Calls Try.prog 10 #[.agg #[.int .u64 r0, .int .u64 r1, .int .u64 r2, .int .u64 r3, .int .i64 t, .int .u64 en, .bool i, .int .u64 fa, .int .i64 fc, .int .u64 p0, .int .u64 p1, .int .u64 p2, .int .u64 p3], .agg #[.int .u64 ga, .int .i64 gc]] W fun e w' => e = .returned (.tuple #[y.val, .int .i64 e0]) ∧ Below W.heap.size W w') ∧ Hid (y = actS S A ∧ e0 = actE S A) := ⟨raiseS S ga gc, raiseE S, fun W => by
          have h := raise_all S ga gc W
          rw [HQS.out] at h ⊢
          exact h, by
          show _ ∧ _
          rw [HA.out]; exact ⟨rfl, rfl⟩⟩
      obtain ⟨y0, y1, y2, y3, y4, y5, y6, y7, y8, y9, y10, y11, y12⟩ := ys
      obtain ⟨zs, ze, Cz, qz⟩ : ∃ (y : St) (e0 : Int), Hid (∀ W : World, Calls Try.prog 16 #[.agg #[.int .u64 x0, .int .u64 x1, .int .u64 x2, .int .u64 x3, .int .i64 x4, .int .u64 x5, .bool x6, .int .u64 x7, .int .i64 x8, .int .u64 x9, .int .u64 x10, .int .u64 x11, .int .u64 x12], .agg #[.int .u64 ga, .int .i64 gc]] W fun e w' => e = .returned (.tuple #[y.val, .int .i64 e0]) ∧ Below W.heap.size W w') ∧ Hid (y = actS X A ∧ e0 = actE X A) := ⟨raiseS X ga gc, raiseE X, fun W => by
          have h := rraise_all X ga gc W
          rw [HQX.out] at h ⊢
          exact h, by
          show _ ∧ _
          rw [HA.out]; exact ⟨rfl, rfl⟩⟩
      obtain ⟨z0, z1, z2, z3, z4, z5, z6, z7, z8, z9, z10, z11, z12⟩ := zs
      have ls1 : w.heap.size < u1.heap.size := blk_lt Zs1.out
      have cs1_0 : u1.cell? ⟨w.heap.size, 0, none⟩ = some (.int .u64 r0) := Zs1.out.cell 0
      have cs1_1 : u1.cell? ⟨w.heap.size, 1, none⟩ = some (.int .u64 r1) := Zs1.out.cell 1
      have cs1_2 : u1.cell? ⟨w.heap.size, 2, none⟩ = some (.int .u64 r2) := Zs1.out.cell 2
      have cs1_3 : u1.cell? ⟨w.heap.size, 3, none⟩ = some (.int .u64 r3) := Zs1.out.cell 3
      have cs1_4 : u1.cell? ⟨w.heap.size, 4, none⟩ = some (.int .i64 t) := Zs1.out.cell 4
      have cs1_5 : u1.cell? ⟨w.heap.size, 5, none⟩ = some (.int .u64 en) := Zs1.out.cell 5
      have cs1_6 : u1.cell? ⟨w.heap.size, 6, none⟩ = some (.bool i) := Zs1.out.cell 6
      have cs1_7 : u1.cell? ⟨w.heap.size, 7, none⟩ = some (.int .u64 fa) := Zs1.out.cell 7
      have cs1_8 : u1.cell? ⟨w.heap.size, 8, none⟩ = some (.int .i64 fc) := Zs1.out.cell 8
      have cs1_9 : u1.cell? ⟨w.heap.size, 9, none⟩ = some (.int .u64 p0) := Zs1.out.cell 9
      have cs1_10 : u1.cell? ⟨w.heap.size, 10, none⟩ = some (.int .u64 p1) := Zs1.out.cell 10
      have cs1_11 : u1.cell? ⟨w.heap.size, 11, none⟩ = some (.int .u64 p2) := Zs1.out.cell 11
      have cs1_12 : u1.cell? ⟨w.heap.size, 12, none⟩ = some (.int .u64 p3) := Zs1.out.cell 12
      have la1 : w.heap.size + 1 + 1 < u1.heap.size := blk_lt Za1.out
      have ca1_0 : u1.cell? ⟨w.heap.size + 1 + 1, 0, none⟩ = some (.int .i64 1) := Za1.out.cell 0
      have ca1_1 : u1.cell? ⟨w.heap.size + 1 + 1, 1, none⟩ = some (.int .i64 op) := Za1.out.cell 1
      have ca1_2 : u1.cell? ⟨w.heap.size + 1 + 1, 2, none⟩ = some (.int .i64 a) := Za1.out.cell 2
      have ca1_3 : u1.cell? ⟨w.heap.size + 1 + 1, 3, none⟩ = some (.int .i64 b) := Za1.out.cell 3
      have ca1_4 : u1.cell? ⟨w.heap.size + 1 + 1, 4, none⟩ = some (.int .i64 d) := Za1.out.cell 4
      have ca1_5 : u1.cell? ⟨w.heap.size + 1 + 1, 5, none⟩ = some (.int .u64 x) := Za1.out.cell 5
      have ca1_6 : u1.cell? ⟨w.heap.size + 1 + 1, 6, none⟩ = some (.int .u64 ga) := Za1.out.cell 6
      have ca1_7 : u1.cell? ⟨w.heap.size + 1 + 1, 7, none⟩ = some (.int .i64 gc) := Za1.out.cell 7
      go_wp2_with fail
      clear ls1 cs1_0 cs1_1 cs1_2 cs1_3 cs1_4 cs1_5 cs1_6 cs1_7 cs1_8 cs1_9 cs1_10 cs1_11 cs1_12 la1 ca1_0 ca1_1 ca1_2 ca1_3 ca1_4 ca1_5 ca1_6 ca1_7
      refine (Cy.out _).mono ?_
      rintro e u2 ⟨rfl, hb⟩
      have B2 : Hid (Below w.heap.size w u2) := below_then (B1.out) hb
      have Zs2 : Hid (Blk u2 (w.heap.size) [.int .u64 r0, .int .u64 r1, .int .u64 r2, .int .u64 r3, .int .i64 t, .int .u64 en, .bool i, .int .u64 fa, .int .i64 fc, .int .u64 p0, .int .u64 p1, .int .u64 p2, .int .u64 p3] 28) := Zs1.out.below hb
      have Zx2 : Hid (Blk u2 (w.heap.size + 1) [.int .u64 x0, .int .u64 x1, .int .u64 x2, .int .u64 x3, .int .i64 x4, .int .u64 x5, .bool x6, .int .u64 x7, .int .i64 x8, .int .u64 x9, .int .u64 x10, .int .u64 x11, .int .u64 x12] 31) := Zx1.out.below hb
      have Za2 : Hid (Blk u2 (w.heap.size + 1 + 1) [.int .i64 1, .int .i64 op, .int .i64 a, .int .i64 b, .int .i64 d, .int .u64 x, .int .u64 ga, .int .i64 gc] 37) := Za1.out.below hb
      have Zg2 : Hid (Blk u2 (w.heap.size + 1 + 1 + 1) [.int .u64 0, .int .u64 0, .int .u64 0, .int .u64 0, .int .i64 0, .int .u64 0, .bool false, .int .u64 0, .int .i64 0, .int .u64 0, .int .u64 0, .int .u64 0, .int .u64 0] 28) := Zg1.out.below hb
      have Zh2 : Hid (Blk u2 (w.heap.size + 1 + 1 + 1 + 1) [.int .u64 0, .int .u64 0, .int .u64 0, .int .u64 0, .int .i64 0, .int .u64 0, .bool false, .int .u64 0, .int .i64 0, .int .u64 0, .int .u64 0, .int .u64 0, .int .u64 0] 31) := Zh1.out.below hb
      clear hb B1 Zs1 Zx1 Za1 Zg1 Zh1 Cy
      rename_i hcont
      refine hcont _ _ ?_
      clear hcont
      iterate 9 go_step
      refine store_pat (w.heap.size) 0 #[.int .u64 y0, .int .u64 y1, .int .u64 y2, .int .u64 y3, .int .i64 y4, .int .u64 y5, .bool y6, .int .u64 y7, .int .i64 y8, .int .u64 y9, .int .u64 y10, .int .u64 y11, .int .u64 y12] rfl rfl Zs2.out.there st_info (by simp [Value.oneCell']) ?_
      simp only [List.toList_toArray]
      generalize hv : World.setCells u2 (w.heap.size) 0 [.int .u64 y0, .int .u64 y1, .int .u64 y2, .int .u64 y3, .int .i64 y4, .int .u64 y5, .bool y6, .int .u64 y7, .int .i64 y8, .int .u64 y9, .int .u64 y10, .int .u64 y11, .int .u64 y12] = u3
      have Zs3 : Hid (Blk u3 (w.heap.size) [.int .u64 y0, .int .u64 y1, .int .u64 y2, .int .u64 y3, .int .i64 y4, .int .u64 y5, .bool y6, .int .u64 y7, .int .i64 y8, .int .u64 y9, .int .u64 y10, .int .u64 y11, .int .u64 y12] 28) := by rw [← hv]; exact Zs2.out.scsame _ 0
      have Zx3 : Hid (Blk u3 (w.heap.size + 1) [.int .u64 x0, .int .u64 x1, .int .u64 x2, .int .u64 x3, .int .i64 x4, .int .u64 x5, .bool x6, .int .u64 x7, .int .i64 x8, .int .u64 x9, .int .u64 x10, .int .u64 x11, .int .u64 x12] 31) := by rw [← hv]; exact Zx2.out.scs (by omega) _ 0
      have Za3 : Hid (Blk u3 (w.heap.size + 1 + 1) [.int .i64 1, .int .i64 op, .int .i64 a, .int .i64 b, .int .i64 d, .int .u64 x, .int .u64 ga, .int .i64 gc] 37) := by rw [← hv]; exact Za2.out.scs (by omega) _ 0
      have Zg3 : Hid (Blk u3 (w.heap.size + 1 + 1 + 1) [.int .u64 0, .int .u64 0, .int .u64 0, .int .u64 0, .int .i64 0, .int .u64 0, .bool false, .int .u64 0, .int .i64 0, .int .u64 0, .int .u64 0, .int .u64 0, .int .u64 0] 28) := by rw [← hv]; exact Zg2.out.scs (by omega) _ 0
      have Zh3 : Hid (Blk u3 (w.heap.size + 1 + 1 + 1 + 1) [.int .u64 0, .int .u64 0, .int .u64 0, .int .u64 0, .int .i64 0, .int .u64 0, .bool false, .int .u64 0, .int .i64 0, .int .u64 0, .int .u64 0, .int .u64 0, .int .u64 0] 31) := by rw [← hv]; exact Zh2.out.scs (by omega) _ 0
      have B3 : Hid (Below w.heap.size w u3) := by rw [← hv]; exact below_scs B2.out (by omega) _ 0
      clear hv B2 Zs2 Zx2 Za2 Zg2 Zh2
      have lx3 : w.heap.size + 1 < u3.heap.size := blk_lt Zx3.out
      have cx3_0 : u3.cell? ⟨w.heap.size + 1, 0, none⟩ = some (.int .u64 x0) := Zx3.out.cell 0
      have cx3_1 : u3.cell? ⟨w.heap.size + 1, 1, none⟩ = some (.int .u64 x1) := Zx3.out.cell 1
      have cx3_2 : u3.cell? ⟨w.heap.size + 1, 2, none⟩ = some (.int .u64 x2) := Zx3.out.cell 2
      have cx3_3 : u3.cell? ⟨w.heap.size + 1, 3, none⟩ = some (.int .u64 x3) := Zx3.out.cell 3
      have cx3_4 : u3.cell? ⟨w.heap.size + 1, 4, none⟩ = some (.int .i64 x4) := Zx3.out.cell 4
      have cx3_5 : u3.cell? ⟨w.heap.size + 1, 5, none⟩ = some (.int .u64 x5) := Zx3.out.cell 5
      have cx3_6 : u3.cell? ⟨w.heap.size + 1, 6, none⟩ = some (.bool x6) := Zx3.out.cell 6
      have cx3_7 : u3.cell? ⟨w.heap.size + 1, 7, none⟩ = some (.int .u64 x7) := Zx3.out.cell 7
      have cx3_8 : u3.cell? ⟨w.heap.size + 1, 8, none⟩ = some (.int .i64 x8) := Zx3.out.cell 8
      have cx3_9 : u3.cell? ⟨w.heap.size + 1, 9, none⟩ = some (.int .u64 x9) := Zx3.out.cell 9
      have cx3_10 : u3.cell? ⟨w.heap.size + 1, 10, none⟩ = some (.int .u64 x10) := Zx3.out.cell 10
      have cx3_11 : u3.cell? ⟨w.heap.size + 1, 11, none⟩ = some (.int .u64 x11) := Zx3.out.cell 11
      have cx3_12 : u3.cell? ⟨w.heap.size + 1, 12, none⟩ = some (.int .u64 x12) := Zx3.out.cell 12
      have la3 : w.heap.size + 1 + 1 < u3.heap.size := blk_lt Za3.out
      have ca3_0 : u3.cell? ⟨w.heap.size + 1 + 1, 0, none⟩ = some (.int .i64 1) := Za3.out.cell 0
      have ca3_1 : u3.cell? ⟨w.heap.size + 1 + 1, 1, none⟩ = some (.int .i64 op) := Za3.out.cell 1
      have ca3_2 : u3.cell? ⟨w.heap.size + 1 + 1, 2, none⟩ = some (.int .i64 a) := Za3.out.cell 2
      have ca3_3 : u3.cell? ⟨w.heap.size + 1 + 1, 3, none⟩ = some (.int .i64 b) := Za3.out.cell 3
      have ca3_4 : u3.cell? ⟨w.heap.size + 1 + 1, 4, none⟩ = some (.int .i64 d) := Za3.out.cell 4
      have ca3_5 : u3.cell? ⟨w.heap.size + 1 + 1, 5, none⟩ = some (.int .u64 x) := Za3.out.cell 5
      have ca3_6 : u3.cell? ⟨w.heap.size + 1 + 1, 6, none⟩ = some (.int .u64 ga) := Za3.out.cell 6
      have ca3_7 : u3.cell? ⟨w.heap.size + 1 + 1, 7, none⟩ = some (.int .i64 gc) := Za3.out.cell 7
      go_wp2_with fail
      clear lx3 cx3_0 cx3_1 cx3_2 cx3_3 cx3_4 cx3_5 cx3_6 cx3_7 cx3_8 cx3_9 cx3_10 cx3_11 cx3_12 la3 ca3_0 ca3_1 ca3_2 ca3_3 ca3_4 ca3_5 ca3_6 ca3_7
      refine (Cz.out _).mono ?_
      rintro e u4 ⟨rfl, hb⟩
      have B4 : Hid (Below w.heap.size w u4) := below_then (B3.out) hb
      have Zs4 : Hid (Blk u4 (w.heap.size) [.int .u64 y0, .int .u64 y1, .int .u64 y2, .int .u64 y3, .int .i64 y4, .int .u64 y5, .bool y6, .int .u64 y7, .int .i64 y8, .int .u64 y9, .int .u64 y10, .int .u64 y11, .int .u64 y12] 28) := Zs3.out.below hb
      have Zx4 : Hid (Blk u4 (w.heap.size + 1) [.int .u64 x0, .int .u64 x1, .int .u64 x2, .int .u64 x3, .int .i64 x4, .int .u64 x5, .bool x6, .int .u64 x7, .int .i64 x8, .int .u64 x9, .int .u64 x10, .int .u64 x11, .int .u64 x12] 31) := Zx3.out.below hb
      have Zg4 : Hid (Blk u4 (w.heap.size + 1 + 1 + 1) [.int .u64 0, .int .u64 0, .int .u64 0, .int .u64 0, .int .i64 0, .int .u64 0, .bool false, .int .u64 0, .int .i64 0, .int .u64 0, .int .u64 0, .int .u64 0, .int .u64 0] 28) := Zg3.out.below hb
      have Zh4 : Hid (Blk u4 (w.heap.size + 1 + 1 + 1 + 1) [.int .u64 0, .int .u64 0, .int .u64 0, .int .u64 0, .int .i64 0, .int .u64 0, .bool false, .int .u64 0, .int .i64 0, .int .u64 0, .int .u64 0, .int .u64 0, .int .u64 0] 31) := Zh3.out.below hb
      clear hb B3 Zs3 Zx3 Za3 Zg3 Zh3 Cz
      rename_i hcont
      refine hcont _ _ ?_
      clear hcont
      iterate 9 go_step
      refine store_pat (w.heap.size + 1) 0 #[.int .u64 z0, .int .u64 z1, .int .u64 z2, .int .u64 z3, .int .i64 z4, .int .u64 z5, .bool z6, .int .u64 z7, .int .i64 z8, .int .u64 z9, .int .u64 z10, .int .u64 z11, .int .u64 z12] rfl rfl Zx4.out.there sx_info (by simp [Value.oneCell']) ?_
      simp only [List.toList_toArray]
      generalize hv : World.setCells u4 (w.heap.size + 1) 0 [.int .u64 z0, .int .u64 z1, .int .u64 z2, .int .u64 z3, .int .i64 z4, .int .u64 z5, .bool z6, .int .u64 z7, .int .i64 z8, .int .u64 z9, .int .u64 z10, .int .u64 z11, .int .u64 z12] = u5
      have Zs5 : Hid (Blk u5 (w.heap.size) [.int .u64 y0, .int .u64 y1, .int .u64 y2, .int .u64 y3, .int .i64 y4, .int .u64 y5, .bool y6, .int .u64 y7, .int .i64 y8, .int .u64 y9, .int .u64 y10, .int .u64 y11, .int .u64 y12] 28) := by rw [← hv]; exact Zs4.out.scs (by omega) _ 0
      have Zx5 : Hid (Blk u5 (w.heap.size + 1) [.int .u64 z0, .int .u64 z1, .int .u64 z2, .int .u64 z3, .int .i64 z4, .int .u64 z5, .bool z6, .int .u64 z7, .int .i64 z8, .int .u64 z9, .int .u64 z10, .int .u64 z11, .int .u64 z12] 31) := by rw [← hv]; exact Zx4.out.scsame _ 0
      have Zg5 : Hid (Blk u5 (w.heap.size + 1 + 1 + 1) [.int .u64 0, .int .u64 0, .int .u64 0, .int .u64 0, .int .i64 0, .int .u64 0, .bool false, .int .u64 0, .int .i64 0, .int .u64 0, .int .u64 0, .int .u64 0, .int .u64 0] 28) := by rw [← hv]; exact Zg4.out.scs (by omega) _ 0
      have Zh5 : Hid (Blk u5 (w.heap.size + 1 + 1 + 1 + 1) [.int .u64 0, .int .u64 0, .int .u64 0, .int .u64 0, .int .i64 0, .int .u64 0, .bool false, .int .u64 0, .int .i64 0, .int .u64 0, .int .u64 0, .int .u64 0, .int .u64 0] 31) := by rw [← hv]; exact Zh4.out.scs (by omega) _ 0
      have B5 : Hid (Below w.heap.size w u5) := by rw [← hv]; exact below_scs B4.out (by omega) _ 0
      clear hv B4 Zs4 Zx4 Zg4 Zh4
      go_wp2_with fail
      go_meet
      exact ⟨⟨y0, y1, y2, y3, y4, y5, y6, y7, y8, y9, y10, y11, y12⟩, ⟨z0, z1, z2, z3, z4, z5, z6, z7, z8, z9, z10, z11, z12⟩, ye, ze, rfl, rfl, ⟨qy.out.1, qz.out.1, qy.out.2, qz.out.2⟩, Zs5, Zx5, Zg5, Zh5, B5⟩
    have c1' : (kd == 1) = false := by simp [c1]
    by_cases c2 : kd = 2
    · subst c2
      obtain ⟨ys, ye, Cy, qy⟩ : ∃ (y : St) (e0 : Int), Hid (∀ W : World, Calls Try.prog 11 #[.agg #[.int .u64 r0, .int .u64 r1, .int .u64 r2, .int .u64 r3, .int .i64 t, .int .u64 en, .bool i, .int .u64 fa, .int .i64 fc, .int .u64 p0, .int .u64 p1, .int .u64 p2, .int .u64 p3]] W fun e w' => e = .returned (.tuple #[y.val, .int .i64 e0]) ∧ Below W.heap.size W w') ∧ Hid (y = actS S A ∧ e0 = actE S A) := ⟨returnS S, returnE S, fun W => by
          have h := return_all S  W
          rw [HQS.out] at h ⊢
          exact h, by
          show _ ∧ _
          rw [HA.out]; exact ⟨rfl, rfl⟩⟩
      obtain ⟨y0, y1, y2, y3, y4, y5, y6, y7, y8, y9, y10, y11, y12⟩ := ys
      obtain ⟨zs, ze, Cz, qz⟩ : ∃ (y : St) (e0 : Int), Hid (∀ W : World, Calls Try.prog 17 #[.agg #[.int .u64 x0, .int .u64 x1, .int .u64 x2, .int .u64 x3, .int .i64 x4, .int .u64 x5, .bool x6, .int .u64 x7, .int .i64 x8, .int .u64 x9, .int .u64 x10, .int .u64 x11, .int .u64 x12]] W fun e w' => e = .returned (.tuple #[y.val, .int .i64 e0]) ∧ Below W.heap.size W w') ∧ Hid (y = actS X A ∧ e0 = actE X A) := ⟨returnS X, returnE X, fun W => by
          have h := rreturn_all X  W
          rw [HQX.out] at h ⊢
          exact h, by
          show _ ∧ _
          rw [HA.out]; exact ⟨rfl, rfl⟩⟩
      obtain ⟨z0, z1, z2, z3, z4, z5, z6, z7, z8, z9, z10, z11, z12⟩ := zs
      have ls1 : w.heap.size < u1.heap.size := blk_lt Zs1.out
      have cs1_0 : u1.cell? ⟨w.heap.size, 0, none⟩ = some (.int .u64 r0) := Zs1.out.cell 0
      have cs1_1 : u1.cell? ⟨w.heap.size, 1, none⟩ = some (.int .u64 r1) := Zs1.out.cell 1
      have cs1_2 : u1.cell? ⟨w.heap.size, 2, none⟩ = some (.int .u64 r2) := Zs1.out.cell 2
      have cs1_3 : u1.cell? ⟨w.heap.size, 3, none⟩ = some (.int .u64 r3) := Zs1.out.cell 3
      have cs1_4 : u1.cell? ⟨w.heap.size, 4, none⟩ = some (.int .i64 t) := Zs1.out.cell 4
      have cs1_5 : u1.cell? ⟨w.heap.size, 5, none⟩ = some (.int .u64 en) := Zs1.out.cell 5
      have cs1_6 : u1.cell? ⟨w.heap.size, 6, none⟩ = some (.bool i) := Zs1.out.cell 6
      have cs1_7 : u1.cell? ⟨w.heap.size, 7, none⟩ = some (.int .u64 fa) := Zs1.out.cell 7
      have cs1_8 : u1.cell? ⟨w.heap.size, 8, none⟩ = some (.int .i64 fc) := Zs1.out.cell 8
      have cs1_9 : u1.cell? ⟨w.heap.size, 9, none⟩ = some (.int .u64 p0) := Zs1.out.cell 9
      have cs1_10 : u1.cell? ⟨w.heap.size, 10, none⟩ = some (.int .u64 p1) := Zs1.out.cell 10
      have cs1_11 : u1.cell? ⟨w.heap.size, 11, none⟩ = some (.int .u64 p2) := Zs1.out.cell 11
      have cs1_12 : u1.cell? ⟨w.heap.size, 12, none⟩ = some (.int .u64 p3) := Zs1.out.cell 12
      have la1 : w.heap.size + 1 + 1 < u1.heap.size := blk_lt Za1.out
      have ca1_0 : u1.cell? ⟨w.heap.size + 1 + 1, 0, none⟩ = some (.int .i64 2) := Za1.out.cell 0
      have ca1_1 : u1.cell? ⟨w.heap.size + 1 + 1, 1, none⟩ = some (.int .i64 op) := Za1.out.cell 1
      have ca1_2 : u1.cell? ⟨w.heap.size + 1 + 1, 2, none⟩ = some (.int .i64 a) := Za1.out.cell 2
      have ca1_3 : u1.cell? ⟨w.heap.size + 1 + 1, 3, none⟩ = some (.int .i64 b) := Za1.out.cell 3
      have ca1_4 : u1.cell? ⟨w.heap.size + 1 + 1, 4, none⟩ = some (.int .i64 d) := Za1.out.cell 4
      have ca1_5 : u1.cell? ⟨w.heap.size + 1 + 1, 5, none⟩ = some (.int .u64 x) := Za1.out.cell 5
      have ca1_6 : u1.cell? ⟨w.heap.size + 1 + 1, 6, none⟩ = some (.int .u64 ga) := Za1.out.cell 6
      have ca1_7 : u1.cell? ⟨w.heap.size + 1 + 1, 7, none⟩ = some (.int .i64 gc) := Za1.out.cell 7
      go_wp2_with fail
      clear ls1 cs1_0 cs1_1 cs1_2 cs1_3 cs1_4 cs1_5 cs1_6 cs1_7 cs1_8 cs1_9 cs1_10 cs1_11 cs1_12 la1 ca1_0 ca1_1 ca1_2 ca1_3 ca1_4 ca1_5 ca1_6 ca1_7
      refine (Cy.out _).mono ?_
      rintro e u2 ⟨rfl, hb⟩
      have B2 : Hid (Below w.heap.size w u2) := below_then (B1.out) hb
      have Zs2 : Hid (Blk u2 (w.heap.size) [.int .u64 r0, .int .u64 r1, .int .u64 r2, .int .u64 r3, .int .i64 t, .int .u64 en, .bool i, .int .u64 fa, .int .i64 fc, .int .u64 p0, .int .u64 p1, .int .u64 p2, .int .u64 p3] 28) := Zs1.out.below hb
      have Zx2 : Hid (Blk u2 (w.heap.size + 1) [.int .u64 x0, .int .u64 x1, .int .u64 x2, .int .u64 x3, .int .i64 x4, .int .u64 x5, .bool x6, .int .u64 x7, .int .i64 x8, .int .u64 x9, .int .u64 x10, .int .u64 x11, .int .u64 x12] 31) := Zx1.out.below hb
      have Za2 : Hid (Blk u2 (w.heap.size + 1 + 1) [.int .i64 2, .int .i64 op, .int .i64 a, .int .i64 b, .int .i64 d, .int .u64 x, .int .u64 ga, .int .i64 gc] 37) := Za1.out.below hb
      have Zg2 : Hid (Blk u2 (w.heap.size + 1 + 1 + 1) [.int .u64 0, .int .u64 0, .int .u64 0, .int .u64 0, .int .i64 0, .int .u64 0, .bool false, .int .u64 0, .int .i64 0, .int .u64 0, .int .u64 0, .int .u64 0, .int .u64 0] 28) := Zg1.out.below hb
      have Zh2 : Hid (Blk u2 (w.heap.size + 1 + 1 + 1 + 1) [.int .u64 0, .int .u64 0, .int .u64 0, .int .u64 0, .int .i64 0, .int .u64 0, .bool false, .int .u64 0, .int .i64 0, .int .u64 0, .int .u64 0, .int .u64 0, .int .u64 0] 31) := Zh1.out.below hb
      clear hb B1 Zs1 Zx1 Za1 Zg1 Zh1 Cy
      rename_i hcont
      refine hcont _ _ ?_
      clear hcont
      iterate 9 go_step
      refine store_pat (w.heap.size) 0 #[.int .u64 y0, .int .u64 y1, .int .u64 y2, .int .u64 y3, .int .i64 y4, .int .u64 y5, .bool y6, .int .u64 y7, .int .i64 y8, .int .u64 y9, .int .u64 y10, .int .u64 y11, .int .u64 y12] rfl rfl Zs2.out.there st_info (by simp [Value.oneCell']) ?_
      simp only [List.toList_toArray]
      generalize hv : World.setCells u2 (w.heap.size) 0 [.int .u64 y0, .int .u64 y1, .int .u64 y2, .int .u64 y3, .int .i64 y4, .int .u64 y5, .bool y6, .int .u64 y7, .int .i64 y8, .int .u64 y9, .int .u64 y10, .int .u64 y11, .int .u64 y12] = u3
      have Zs3 : Hid (Blk u3 (w.heap.size) [.int .u64 y0, .int .u64 y1, .int .u64 y2, .int .u64 y3, .int .i64 y4, .int .u64 y5, .bool y6, .int .u64 y7, .int .i64 y8, .int .u64 y9, .int .u64 y10, .int .u64 y11, .int .u64 y12] 28) := by rw [← hv]; exact Zs2.out.scsame _ 0
      have Zx3 : Hid (Blk u3 (w.heap.size + 1) [.int .u64 x0, .int .u64 x1, .int .u64 x2, .int .u64 x3, .int .i64 x4, .int .u64 x5, .bool x6, .int .u64 x7, .int .i64 x8, .int .u64 x9, .int .u64 x10, .int .u64 x11, .int .u64 x12] 31) := by rw [← hv]; exact Zx2.out.scs (by omega) _ 0
      have Za3 : Hid (Blk u3 (w.heap.size + 1 + 1) [.int .i64 2, .int .i64 op, .int .i64 a, .int .i64 b, .int .i64 d, .int .u64 x, .int .u64 ga, .int .i64 gc] 37) := by rw [← hv]; exact Za2.out.scs (by omega) _ 0
      have Zg3 : Hid (Blk u3 (w.heap.size + 1 + 1 + 1) [.int .u64 0, .int .u64 0, .int .u64 0, .int .u64 0, .int .i64 0, .int .u64 0, .bool false, .int .u64 0, .int .i64 0, .int .u64 0, .int .u64 0, .int .u64 0, .int .u64 0] 28) := by rw [← hv]; exact Zg2.out.scs (by omega) _ 0
      have Zh3 : Hid (Blk u3 (w.heap.size + 1 + 1 + 1 + 1) [.int .u64 0, .int .u64 0, .int .u64 0, .int .u64 0, .int .i64 0, .int .u64 0, .bool false, .int .u64 0, .int .i64 0, .int .u64 0, .int .u64 0, .int .u64 0, .int .u64 0] 31) := by rw [← hv]; exact Zh2.out.scs (by omega) _ 0
      have B3 : Hid (Below w.heap.size w u3) := by rw [← hv]; exact below_scs B2.out (by omega) _ 0
      clear hv B2 Zs2 Zx2 Za2 Zg2 Zh2
      have lx3 : w.heap.size + 1 < u3.heap.size := blk_lt Zx3.out
      have cx3_0 : u3.cell? ⟨w.heap.size + 1, 0, none⟩ = some (.int .u64 x0) := Zx3.out.cell 0
      have cx3_1 : u3.cell? ⟨w.heap.size + 1, 1, none⟩ = some (.int .u64 x1) := Zx3.out.cell 1
      have cx3_2 : u3.cell? ⟨w.heap.size + 1, 2, none⟩ = some (.int .u64 x2) := Zx3.out.cell 2
      have cx3_3 : u3.cell? ⟨w.heap.size + 1, 3, none⟩ = some (.int .u64 x3) := Zx3.out.cell 3
      have cx3_4 : u3.cell? ⟨w.heap.size + 1, 4, none⟩ = some (.int .i64 x4) := Zx3.out.cell 4
      have cx3_5 : u3.cell? ⟨w.heap.size + 1, 5, none⟩ = some (.int .u64 x5) := Zx3.out.cell 5
      have cx3_6 : u3.cell? ⟨w.heap.size + 1, 6, none⟩ = some (.bool x6) := Zx3.out.cell 6
      have cx3_7 : u3.cell? ⟨w.heap.size + 1, 7, none⟩ = some (.int .u64 x7) := Zx3.out.cell 7
      have cx3_8 : u3.cell? ⟨w.heap.size + 1, 8, none⟩ = some (.int .i64 x8) := Zx3.out.cell 8
      have cx3_9 : u3.cell? ⟨w.heap.size + 1, 9, none⟩ = some (.int .u64 x9) := Zx3.out.cell 9
      have cx3_10 : u3.cell? ⟨w.heap.size + 1, 10, none⟩ = some (.int .u64 x10) := Zx3.out.cell 10
      have cx3_11 : u3.cell? ⟨w.heap.size + 1, 11, none⟩ = some (.int .u64 x11) := Zx3.out.cell 11
      have cx3_12 : u3.cell? ⟨w.heap.size + 1, 12, none⟩ = some (.int .u64 x12) := Zx3.out.cell 12
      have la3 : w.heap.size + 1 + 1 < u3.heap.size := blk_lt Za3.out
      have ca3_0 : u3.cell? ⟨w.heap.size + 1 + 1, 0, none⟩ = some (.int .i64 2) := Za3.out.cell 0
      have ca3_1 : u3.cell? ⟨w.heap.size + 1 + 1, 1, none⟩ = some (.int .i64 op) := Za3.out.cell 1
      have ca3_2 : u3.cell? ⟨w.heap.size + 1 + 1, 2, none⟩ = some (.int .i64 a) := Za3.out.cell 2
      have ca3_3 : u3.cell? ⟨w.heap.size + 1 + 1, 3, none⟩ = some (.int .i64 b) := Za3.out.cell 3
      have ca3_4 : u3.cell? ⟨w.heap.size + 1 + 1, 4, none⟩ = some (.int .i64 d) := Za3.out.cell 4
      have ca3_5 : u3.cell? ⟨w.heap.size + 1 + 1, 5, none⟩ = some (.int .u64 x) := Za3.out.cell 5
      have ca3_6 : u3.cell? ⟨w.heap.size + 1 + 1, 6, none⟩ = some (.int .u64 ga) := Za3.out.cell 6
      have ca3_7 : u3.cell? ⟨w.heap.size + 1 + 1, 7, none⟩ = some (.int .i64 gc) := Za3.out.cell 7
      go_wp2_with fail
      clear lx3 cx3_0 cx3_1 cx3_2 cx3_3 cx3_4 cx3_5 cx3_6 cx3_7 cx3_8 cx3_9 cx3_10 cx3_11 cx3_12 la3 ca3_0 ca3_1 ca3_2 ca3_3 ca3_4 ca3_5 ca3_6 ca3_7
      refine (Cz.out _).mono ?_
      rintro e u4 ⟨rfl, hb⟩
      have B4 : Hid (Below w.heap.size w u4) := below_then (B3.out) hb
      have Zs4 : Hid (Blk u4 (w.heap.size) [.int .u64 y0, .int .u64 y1, .int .u64 y2, .int .u64 y3, .int .i64 y4, .int .u64 y5, .bool y6, .int .u64 y7, .int .i64 y8, .int .u64 y9, .int .u64 y10, .int .u64 y11, .int .u64 y12] 28) := Zs3.out.below hb
      have Zx4 : Hid (Blk u4 (w.heap.size + 1) [.int .u64 x0, .int .u64 x1, .int .u64 x2, .int .u64 x3, .int .i64 x4, .int .u64 x5, .bool x6, .int .u64 x7, .int .i64 x8, .int .u64 x9, .int .u64 x10, .int .u64 x11, .int .u64 x12] 31) := Zx3.out.below hb
      have Zg4 : Hid (Blk u4 (w.heap.size + 1 + 1 + 1) [.int .u64 0, .int .u64 0, .int .u64 0, .int .u64 0, .int .i64 0, .int .u64 0, .bool false, .int .u64 0, .int .i64 0, .int .u64 0, .int .u64 0, .int .u64 0, .int .u64 0] 28) := Zg3.out.below hb
      have Zh4 : Hid (Blk u4 (w.heap.size + 1 + 1 + 1 + 1) [.int .u64 0, .int .u64 0, .int .u64 0, .int .u64 0, .int .i64 0, .int .u64 0, .bool false, .int .u64 0, .int .i64 0, .int .u64 0, .int .u64 0, .int .u64 0, .int .u64 0] 31) := Zh3.out.below hb
      clear hb B3 Zs3 Zx3 Za3 Zg3 Zh3 Cz
      rename_i hcont
      refine hcont _ _ ?_
      clear hcont
      iterate 9 go_step
      refine store_pat (w.heap.size + 1) 0 #[.int .u64 z0, .int .u64 z1, .int .u64 z2, .int .u64 z3, .int .i64 z4, .int .u64 z5, .bool z6, .int .u64 z7, .int .i64 z8, .int .u64 z9, .int .u64 z10, .int .u64 z11, .int .u64 z12] rfl rfl Zx4.out.there sx_info (by simp [Value.oneCell']) ?_
      simp only [List.toList_toArray]
      generalize hv : World.setCells u4 (w.heap.size + 1) 0 [.int .u64 z0, .int .u64 z1, .int .u64 z2, .int .u64 z3, .int .i64 z4, .int .u64 z5, .bool z6, .int .u64 z7, .int .i64 z8, .int .u64 z9, .int .u64 z10, .int .u64 z11, .int .u64 z12] = u5
      have Zs5 : Hid (Blk u5 (w.heap.size) [.int .u64 y0, .int .u64 y1, .int .u64 y2, .int .u64 y3, .int .i64 y4, .int .u64 y5, .bool y6, .int .u64 y7, .int .i64 y8, .int .u64 y9, .int .u64 y10, .int .u64 y11, .int .u64 y12] 28) := by rw [← hv]; exact Zs4.out.scs (by omega) _ 0
      have Zx5 : Hid (Blk u5 (w.heap.size + 1) [.int .u64 z0, .int .u64 z1, .int .u64 z2, .int .u64 z3, .int .i64 z4, .int .u64 z5, .bool z6, .int .u64 z7, .int .i64 z8, .int .u64 z9, .int .u64 z10, .int .u64 z11, .int .u64 z12] 31) := by rw [← hv]; exact Zx4.out.scsame _ 0
      have Zg5 : Hid (Blk u5 (w.heap.size + 1 + 1 + 1) [.int .u64 0, .int .u64 0, .int .u64 0, .int .u64 0, .int .i64 0, .int .u64 0, .bool false, .int .u64 0, .int .i64 0, .int .u64 0, .int .u64 0, .int .u64 0, .int .u64 0] 28) := by rw [← hv]; exact Zg4.out.scs (by omega) _ 0
      have Zh5 : Hid (Blk u5 (w.heap.size + 1 + 1 + 1 + 1) [.int .u64 0, .int .u64 0, .int .u64 0, .int .u64 0, .int .i64 0, .int .u64 0, .bool false, .int .u64 0, .int .i64 0, .int .u64 0, .int .u64 0, .int .u64 0, .int .u64 0] 31) := by rw [← hv]; exact Zh4.out.scs (by omega) _ 0
      have B5 : Hid (Below w.heap.size w u5) := by rw [← hv]; exact below_scs B4.out (by omega) _ 0
      clear hv B4 Zs4 Zx4 Zg4 Zh4
      go_wp2_with fail
      go_meet
      exact ⟨⟨y0, y1, y2, y3, y4, y5, y6, y7, y8, y9, y10, y11, y12⟩, ⟨z0, z1, z2, z3, z4, z5, z6, z7, z8, z9, z10, z11, z12⟩, ye, ze, rfl, rfl, ⟨qy.out.1, qz.out.1, qy.out.2, qz.out.2⟩, Zs5, Zx5, Zg5, Zh5, B5⟩
    have c2' : (kd == 2) = false := by simp [c2]
    by_cases c3 : kd = 3
    · subst c3
      obtain ⟨ys, ye, Cy, qy⟩ : ∃ (y : St) (e0 : Int), Hid (∀ W : World, Calls Try.prog 15 #[.agg #[.int .u64 r0, .int .u64 r1, .int .u64 r2, .int .u64 r3, .int .i64 t, .int .u64 en, .bool i, .int .u64 fa, .int .i64 fc, .int .u64 p0, .int .u64 p1, .int .u64 p2, .int .u64 p3], .int .u64 x] W fun e w' => e = .returned (.tuple #[y.val, .int .i64 e0]) ∧ Below W.heap.size W w') ∧ Hid (y = actS S A ∧ e0 = actE S A) := ⟨handleS S x, handleE S, fun W => by
          have h := handle_all S x W
          rw [HQS.out] at h ⊢
          exact h, by
          show _ ∧ _
          rw [HA.out]; exact ⟨rfl, rfl⟩⟩
      obtain ⟨y0, y1, y2, y3, y4, y5, y6, y7, y8, y9, y10, y11, y12⟩ := ys
      obtain ⟨zs, ze, Cz, qz⟩ : ∃ (y : St) (e0 : Int), Hid (∀ W : World, Calls Try.prog 18 #[.agg #[.int .u64 x0, .int .u64 x1, .int .u64 x2, .int .u64 x3, .int .i64 x4, .int .u64 x5, .bool x6, .int .u64 x7, .int .i64 x8, .int .u64 x9, .int .u64 x10, .int .u64 x11, .int .u64 x12], .int .u64 x] W fun e w' => e = .returned (.tuple #[y.val, .int .i64 e0]) ∧ Below W.heap.size W w') ∧ Hid (y = actS X A ∧ e0 = actE X A) := ⟨handleS X x, handleE X, fun W => by
          have h := rhandle_all X x W
          rw [HQX.out] at h ⊢
          exact h, by
          show _ ∧ _
          rw [HA.out]; exact ⟨rfl, rfl⟩⟩
      obtain ⟨z0, z1, z2, z3, z4, z5, z6, z7, z8, z9, z10, z11, z12⟩ := zs
      have ls1 : w.heap.size < u1.heap.size := blk_lt Zs1.out
      have cs1_0 : u1.cell? ⟨w.heap.size, 0, none⟩ = some (.int .u64 r0) := Zs1.out.cell 0
      have cs1_1 : u1.cell? ⟨w.heap.size, 1, none⟩ = some (.int .u64 r1) := Zs1.out.cell 1
      have cs1_2 : u1.cell? ⟨w.heap.size, 2, none⟩ = some (.int .u64 r2) := Zs1.out.cell 2
      have cs1_3 : u1.cell? ⟨w.heap.size, 3, none⟩ = some (.int .u64 r3) := Zs1.out.cell 3
      have cs1_4 : u1.cell? ⟨w.heap.size, 4, none⟩ = some (.int .i64 t) := Zs1.out.cell 4
      have cs1_5 : u1.cell? ⟨w.heap.size, 5, none⟩ = some (.int .u64 en) := Zs1.out.cell 5
      have cs1_6 : u1.cell? ⟨w.heap.size, 6, none⟩ = some (.bool i) := Zs1.out.cell 6
      have cs1_7 : u1.cell? ⟨w.heap.size, 7, none⟩ = some (.int .u64 fa) := Zs1.out.cell 7
      have cs1_8 : u1.cell? ⟨w.heap.size, 8, none⟩ = some (.int .i64 fc) := Zs1.out.cell 8
      have cs1_9 : u1.cell? ⟨w.heap.size, 9, none⟩ = some (.int .u64 p0) := Zs1.out.cell 9
      have cs1_10 : u1.cell? ⟨w.heap.size, 10, none⟩ = some (.int .u64 p1) := Zs1.out.cell 10
      have cs1_11 : u1.cell? ⟨w.heap.size, 11, none⟩ = some (.int .u64 p2) := Zs1.out.cell 11
      have cs1_12 : u1.cell? ⟨w.heap.size, 12, none⟩ = some (.int .u64 p3) := Zs1.out.cell 12
      have la1 : w.heap.size + 1 + 1 < u1.heap.size := blk_lt Za1.out
      have ca1_0 : u1.cell? ⟨w.heap.size + 1 + 1, 0, none⟩ = some (.int .i64 3) := Za1.out.cell 0
      have ca1_1 : u1.cell? ⟨w.heap.size + 1 + 1, 1, none⟩ = some (.int .i64 op) := Za1.out.cell 1
      have ca1_2 : u1.cell? ⟨w.heap.size + 1 + 1, 2, none⟩ = some (.int .i64 a) := Za1.out.cell 2
      have ca1_3 : u1.cell? ⟨w.heap.size + 1 + 1, 3, none⟩ = some (.int .i64 b) := Za1.out.cell 3
      have ca1_4 : u1.cell? ⟨w.heap.size + 1 + 1, 4, none⟩ = some (.int .i64 d) := Za1.out.cell 4
      have ca1_5 : u1.cell? ⟨w.heap.size + 1 + 1, 5, none⟩ = some (.int .u64 x) := Za1.out.cell 5
      have ca1_6 : u1.cell? ⟨w.heap.size + 1 + 1, 6, none⟩ = some (.int .u64 ga) := Za1.out.cell 6
      have ca1_7 : u1.cell? ⟨w.heap.size + 1 + 1, 7, none⟩ = some (.int .i64 gc) := Za1.out.cell 7
      go_wp2_with fail
      clear ls1 cs1_0 cs1_1 cs1_2 cs1_3 cs1_4 cs1_5 cs1_6 cs1_7 cs1_8 cs1_9 cs1_10 cs1_11 cs1_12 la1 ca1_0 ca1_1 ca1_2 ca1_3 ca1_4 ca1_5 ca1_6 ca1_7
      refine (Cy.out _).mono ?_
      rintro e u2 ⟨rfl, hb⟩
      have B2 : Hid (Below w.heap.size w u2) := below_then (B1.out) hb
      have Zs2 : Hid (Blk u2 (w.heap.size) [.int .u64 r0, .int .u64 r1, .int .u64 r2, .int .u64 r3, .int .i64 t, .int .u64 en, .bool i, .int .u64 fa, .int .i64 fc, .int .u64 p0, .int .u64 p1, .int .u64 p2, .int .u64 p3] 28) := Zs1.out.below hb
      have Zx2 : Hid (Blk u2 (w.heap.size + 1) [.int .u64 x0, .int .u64 x1, .int .u64 x2, .int .u64 x3, .int .i64 x4, .int .u64 x5, .bool x6, .int .u64 x7, .int .i64 x8, .int .u64 x9, .int .u64 x10, .int .u64 x11, .int .u64 x12] 31) := Zx1.out.below hb
      have Za2 : Hid (Blk u2 (w.heap.size + 1 + 1) [.int .i64 3, .int .i64 op, .int .i64 a, .int .i64 b, .int .i64 d, .int .u64 x, .int .u64 ga, .int .i64 gc] 37) := Za1.out.below hb
      have Zg2 : Hid (Blk u2 (w.heap.size + 1 + 1 + 1) [.int .u64 0, .int .u64 0, .int .u64 0, .int .u64 0, .int .i64 0, .int .u64 0, .bool false, .int .u64 0, .int .i64 0, .int .u64 0, .int .u64 0, .int .u64 0, .int .u64 0] 28) := Zg1.out.below hb
      have Zh2 : Hid (Blk u2 (w.heap.size + 1 + 1 + 1 + 1) [.int .u64 0, .int .u64 0, .int .u64 0, .int .u64 0, .int .i64 0, .int .u64 0, .bool false, .int .u64 0, .int .i64 0, .int .u64 0, .int .u64 0, .int .u64 0, .int .u64 0] 31) := Zh1.out.below hb
      clear hb B1 Zs1 Zx1 Za1 Zg1 Zh1 Cy
      rename_i hcont
      refine hcont _ _ ?_
      clear hcont
      iterate 9 go_step
      refine store_pat (w.heap.size) 0 #[.int .u64 y0, .int .u64 y1, .int .u64 y2, .int .u64 y3, .int .i64 y4, .int .u64 y5, .bool y6, .int .u64 y7, .int .i64 y8, .int .u64 y9, .int .u64 y10, .int .u64 y11, .int .u64 y12] rfl rfl Zs2.out.there st_info (by simp [Value.oneCell']) ?_
      simp only [List.toList_toArray]
      generalize hv : World.setCells u2 (w.heap.size) 0 [.int .u64 y0, .int .u64 y1, .int .u64 y2, .int .u64 y3, .int .i64 y4, .int .u64 y5, .bool y6, .int .u64 y7, .int .i64 y8, .int .u64 y9, .int .u64 y10, .int .u64 y11, .int .u64 y12] = u3
      have Zs3 : Hid (Blk u3 (w.heap.size) [.int .u64 y0, .int .u64 y1, .int .u64 y2, .int .u64 y3, .int .i64 y4, .int .u64 y5, .bool y6, .int .u64 y7, .int .i64 y8, .int .u64 y9, .int .u64 y10, .int .u64 y11, .int .u64 y12] 28) := by rw [← hv]; exact Zs2.out.scsame _ 0
      have Zx3 : Hid (Blk u3 (w.heap.size + 1) [.int .u64 x0, .int .u64 x1, .int .u64 x2, .int .u64 x3, .int .i64 x4, .int .u64 x5, .bool x6, .int .u64 x7, .int .i64 x8, .int .u64 x9, .int .u64 x10, .int .u64 x11, .int .u64 x12] 31) := by rw [← hv]; exact Zx2.out.scs (by omega) _ 0
      have Za3 : Hid (Blk u3 (w.heap.size + 1 + 1) [.int .i64 3, .int .i64 op, .int .i64 a, .int .i64 b, .int .i64 d, .int .u64 x, .int .u64 ga, .int .i64 gc] 37) := by rw [← hv]; exact Za2.out.scs (by omega) _ 0
      have Zg3 : Hid (Blk u3 (w.heap.size + 1 + 1 + 1) [.int .u64 0, .int .u64 0, .int .u64 0, .int .u64 0, .int .i64 0, .int .u64 0, .bool false, .int .u64 0, .int .i64 0, .int .u64 0, .int .u64 0, .int .u64 0, .int .u64 0] 28) := by rw [← hv]; exact Zg2.out.scs (by omega) _ 0
      have Zh3 : Hid (Blk u3 (w.heap.size + 1 + 1 + 1 + 1) [.int .u64 0, .int .u64 0, .int .u64 0, .int .u64 0, .int .i64 0, .int .u64 0, .bool false, .int .u64 0, .int .i64 0, .int .u64 0, .int .u64 0, .int .u64 0, .int .u64 0] 31) := by rw [← hv]; exact Zh2.out.scs (by omega) _ 0
      have B3 : Hid (Below w.heap.size w u3) := by rw [← hv]; exact below_scs B2.out (by omega) _ 0
      clear hv B2 Zs2 Zx2 Za2 Zg2 Zh2
      have lx3 : w.heap.size + 1 < u3.heap.size := blk_lt Zx3.out
      have cx3_0 : u3.cell? ⟨w.heap.size + 1, 0, none⟩ = some (.int .u64 x0) := Zx3.out.cell 0
      have cx3_1 : u3.cell? ⟨w.heap.size + 1, 1, none⟩ = some (.int .u64 x1) := Zx3.out.cell 1
      have cx3_2 : u3.cell? ⟨w.heap.size + 1, 2, none⟩ = some (.int .u64 x2) := Zx3.out.cell 2
      have cx3_3 : u3.cell? ⟨w.heap.size + 1, 3, none⟩ = some (.int .u64 x3) := Zx3.out.cell 3
      have cx3_4 : u3.cell? ⟨w.heap.size + 1, 4, none⟩ = some (.int .i64 x4) := Zx3.out.cell 4
      have cx3_5 : u3.cell? ⟨w.heap.size + 1, 5, none⟩ = some (.int .u64 x5) := Zx3.out.cell 5
      have cx3_6 : u3.cell? ⟨w.heap.size + 1, 6, none⟩ = some (.bool x6) := Zx3.out.cell 6
      have cx3_7 : u3.cell? ⟨w.heap.size + 1, 7, none⟩ = some (.int .u64 x7) := Zx3.out.cell 7
      have cx3_8 : u3.cell? ⟨w.heap.size + 1, 8, none⟩ = some (.int .i64 x8) := Zx3.out.cell 8
      have cx3_9 : u3.cell? ⟨w.heap.size + 1, 9, none⟩ = some (.int .u64 x9) := Zx3.out.cell 9
      have cx3_10 : u3.cell? ⟨w.heap.size + 1, 10, none⟩ = some (.int .u64 x10) := Zx3.out.cell 10
      have cx3_11 : u3.cell? ⟨w.heap.size + 1, 11, none⟩ = some (.int .u64 x11) := Zx3.out.cell 11
      have cx3_12 : u3.cell? ⟨w.heap.size + 1, 12, none⟩ = some (.int .u64 x12) := Zx3.out.cell 12
      have la3 : w.heap.size + 1 + 1 < u3.heap.size := blk_lt Za3.out
      have ca3_0 : u3.cell? ⟨w.heap.size + 1 + 1, 0, none⟩ = some (.int .i64 3) := Za3.out.cell 0
      have ca3_1 : u3.cell? ⟨w.heap.size + 1 + 1, 1, none⟩ = some (.int .i64 op) := Za3.out.cell 1
      have ca3_2 : u3.cell? ⟨w.heap.size + 1 + 1, 2, none⟩ = some (.int .i64 a) := Za3.out.cell 2
      have ca3_3 : u3.cell? ⟨w.heap.size + 1 + 1, 3, none⟩ = some (.int .i64 b) := Za3.out.cell 3
      have ca3_4 : u3.cell? ⟨w.heap.size + 1 + 1, 4, none⟩ = some (.int .i64 d) := Za3.out.cell 4
      have ca3_5 : u3.cell? ⟨w.heap.size + 1 + 1, 5, none⟩ = some (.int .u64 x) := Za3.out.cell 5
      have ca3_6 : u3.cell? ⟨w.heap.size + 1 + 1, 6, none⟩ = some (.int .u64 ga) := Za3.out.cell 6
      have ca3_7 : u3.cell? ⟨w.heap.size + 1 + 1, 7, none⟩ = some (.int .i64 gc) := Za3.out.cell 7
      go_wp2_with fail
      clear lx3 cx3_0 cx3_1 cx3_2 cx3_3 cx3_4 cx3_5 cx3_6 cx3_7 cx3_8 cx3_9 cx3_10 cx3_11 cx3_12 la3 ca3_0 ca3_1 ca3_2 ca3_3 ca3_4 ca3_5 ca3_6 ca3_7
      refine (Cz.out _).mono ?_
      rintro e u4 ⟨rfl, hb⟩
      have B4 : Hid (Below w.heap.size w u4) := below_then (B3.out) hb
      have Zs4 : Hid (Blk u4 (w.heap.size) [.int .u64 y0, .int .u64 y1, .int .u64 y2, .int .u64 y3, .int .i64 y4, .int .u64 y5, .bool y6, .int .u64 y7, .int .i64 y8, .int .u64 y9, .int .u64 y10, .int .u64 y11, .int .u64 y12] 28) := Zs3.out.below hb
      have Zx4 : Hid (Blk u4 (w.heap.size + 1) [.int .u64 x0, .int .u64 x1, .int .u64 x2, .int .u64 x3, .int .i64 x4, .int .u64 x5, .bool x6, .int .u64 x7, .int .i64 x8, .int .u64 x9, .int .u64 x10, .int .u64 x11, .int .u64 x12] 31) := Zx3.out.below hb
      have Zg4 : Hid (Blk u4 (w.heap.size + 1 + 1 + 1) [.int .u64 0, .int .u64 0, .int .u64 0, .int .u64 0, .int .i64 0, .int .u64 0, .bool false, .int .u64 0, .int .i64 0, .int .u64 0, .int .u64 0, .int .u64 0, .int .u64 0] 28) := Zg3.out.below hb
      have Zh4 : Hid (Blk u4 (w.heap.size + 1 + 1 + 1 + 1) [.int .u64 0, .int .u64 0, .int .u64 0, .int .u64 0, .int .i64 0, .int .u64 0, .bool false, .int .u64 0, .int .i64 0, .int .u64 0, .int .u64 0, .int .u64 0, .int .u64 0] 31) := Zh3.out.below hb
      clear hb B3 Zs3 Zx3 Za3 Zg3 Zh3 Cz
      rename_i hcont
      refine hcont _ _ ?_
      clear hcont
      iterate 9 go_step
      refine store_pat (w.heap.size + 1) 0 #[.int .u64 z0, .int .u64 z1, .int .u64 z2, .int .u64 z3, .int .i64 z4, .int .u64 z5, .bool z6, .int .u64 z7, .int .i64 z8, .int .u64 z9, .int .u64 z10, .int .u64 z11, .int .u64 z12] rfl rfl Zx4.out.there sx_info (by simp [Value.oneCell']) ?_
      simp only [List.toList_toArray]
      generalize hv : World.setCells u4 (w.heap.size + 1) 0 [.int .u64 z0, .int .u64 z1, .int .u64 z2, .int .u64 z3, .int .i64 z4, .int .u64 z5, .bool z6, .int .u64 z7, .int .i64 z8, .int .u64 z9, .int .u64 z10, .int .u64 z11, .int .u64 z12] = u5
      have Zs5 : Hid (Blk u5 (w.heap.size) [.int .u64 y0, .int .u64 y1, .int .u64 y2, .int .u64 y3, .int .i64 y4, .int .u64 y5, .bool y6, .int .u64 y7, .int .i64 y8, .int .u64 y9, .int .u64 y10, .int .u64 y11, .int .u64 y12] 28) := by rw [← hv]; exact Zs4.out.scs (by omega) _ 0
      have Zx5 : Hid (Blk u5 (w.heap.size + 1) [.int .u64 z0, .int .u64 z1, .int .u64 z2, .int .u64 z3, .int .i64 z4, .int .u64 z5, .bool z6, .int .u64 z7, .int .i64 z8, .int .u64 z9, .int .u64 z10, .int .u64 z11, .int .u64 z12] 31) := by rw [← hv]; exact Zx4.out.scsame _ 0
      have Zg5 : Hid (Blk u5 (w.heap.size + 1 + 1 + 1) [.int .u64 0, .int .u64 0, .int .u64 0, .int .u64 0, .int .i64 0, .int .u64 0, .bool false, .int .u64 0, .int .i64 0, .int .u64 0, .int .u64 0, .int .u64 0, .int .u64 0] 28) := by rw [← hv]; exact Zg4.out.scs (by omega) _ 0
      have Zh5 : Hid (Blk u5 (w.heap.size + 1 + 1 + 1 + 1) [.int .u64 0, .int .u64 0, .int .u64 0, .int .u64 0, .int .i64 0, .int .u64 0, .bool false, .int .u64 0, .int .i64 0, .int .u64 0, .int .u64 0, .int .u64 0, .int .u64 0] 31) := by rw [← hv]; exact Zh4.out.scs (by omega) _ 0
      have B5 : Hid (Below w.heap.size w u5) := by rw [← hv]; exact below_scs B4.out (by omega) _ 0
      clear hv B4 Zs4 Zx4 Zg4 Zh4
      go_wp2_with fail
      go_meet
      exact ⟨⟨y0, y1, y2, y3, y4, y5, y6, y7, y8, y9, y10, y11, y12⟩, ⟨z0, z1, z2, z3, z4, z5, z6, z7, z8, z9, z10, z11, z12⟩, ye, ze, rfl, rfl, ⟨qy.out.1, qz.out.1, qy.out.2, qz.out.2⟩, Zs5, Zx5, Zg5, Zh5, B5⟩
    have c3' : (kd == 3) = false := by simp [c3]
    by_cases c4 : kd = 4
    · subst c4
      obtain ⟨ys, ye, Cy, qy⟩ : ∃ (y : St) (e0 : Int), Hid (∀ W : World, Calls Try.prog 14 #[.agg #[.int .u64 r0, .int .u64 r1, .int .u64 r2, .int .u64 r3, .int .i64 t, .int .u64 en, .bool i, .int .u64 fa, .int .i64 fc, .int .u64 p0, .int .u64 p1, .int .u64 p2, .int .u64 p3], .int .i64 a, .int .u64 x] W fun e w' => e = .returned (.tuple #[y.val, .int .i64 e0]) ∧ Below W.heap.size W w') ∧ Hid (y = actS S A ∧ e0 = actE S A) := ⟨moveS S a x, moveE a, fun W => by
          have h := move_all S a x W
          rw [HQS.out] at h ⊢
          exact h, by
          show _ ∧ _
          rw [HA.out]; exact ⟨rfl, rfl⟩⟩
      obtain ⟨y0, y1, y2, y3, y4, y5, y6, y7, y8, y9, y10, y11, y12⟩ := ys
      obtain ⟨zs, ze, Cz, qz⟩ : ∃ (y : St) (e0 : Int), Hid (∀ W : World, Calls Try.prog 19 #[.agg #[.int .u64 x0, .int .u64 x1, .int .u64 x2, .int .u64 x3, .int .i64 x4, .int .u64 x5, .bool x6, .int .u64 x7, .int .i64 x8, .int .u64 x9, .int .u64 x10, .int .u64 x11, .int .u64 x12], .int .i64 a, .int .u64 x] W fun e w' => e = .returned (.tuple #[y.val, .int .i64 e0]) ∧ Below W.heap.size W w') ∧ Hid (y = actS X A ∧ e0 = actE X A) := ⟨moveS X a x, moveE a, fun W => by
          have h := rmove_all X a x W
          rw [HQX.out] at h ⊢
          exact h, by
          show _ ∧ _
          rw [HA.out]; exact ⟨rfl, rfl⟩⟩
      obtain ⟨z0, z1, z2, z3, z4, z5, z6, z7, z8, z9, z10, z11, z12⟩ := zs
      have ls1 : w.heap.size < u1.heap.size := blk_lt Zs1.out
      have cs1_0 : u1.cell? ⟨w.heap.size, 0, none⟩ = some (.int .u64 r0) := Zs1.out.cell 0
      have cs1_1 : u1.cell? ⟨w.heap.size, 1, none⟩ = some (.int .u64 r1) := Zs1.out.cell 1
      have cs1_2 : u1.cell? ⟨w.heap.size, 2, none⟩ = some (.int .u64 r2) := Zs1.out.cell 2
      have cs1_3 : u1.cell? ⟨w.heap.size, 3, none⟩ = some (.int .u64 r3) := Zs1.out.cell 3
      have cs1_4 : u1.cell? ⟨w.heap.size, 4, none⟩ = some (.int .i64 t) := Zs1.out.cell 4
      have cs1_5 : u1.cell? ⟨w.heap.size, 5, none⟩ = some (.int .u64 en) := Zs1.out.cell 5
      have cs1_6 : u1.cell? ⟨w.heap.size, 6, none⟩ = some (.bool i) := Zs1.out.cell 6
      have cs1_7 : u1.cell? ⟨w.heap.size, 7, none⟩ = some (.int .u64 fa) := Zs1.out.cell 7
      have cs1_8 : u1.cell? ⟨w.heap.size, 8, none⟩ = some (.int .i64 fc) := Zs1.out.cell 8
      have cs1_9 : u1.cell? ⟨w.heap.size, 9, none⟩ = some (.int .u64 p0) := Zs1.out.cell 9
      have cs1_10 : u1.cell? ⟨w.heap.size, 10, none⟩ = some (.int .u64 p1) := Zs1.out.cell 10
      have cs1_11 : u1.cell? ⟨w.heap.size, 11, none⟩ = some (.int .u64 p2) := Zs1.out.cell 11
      have cs1_12 : u1.cell? ⟨w.heap.size, 12, none⟩ = some (.int .u64 p3) := Zs1.out.cell 12
      have la1 : w.heap.size + 1 + 1 < u1.heap.size := blk_lt Za1.out
      have ca1_0 : u1.cell? ⟨w.heap.size + 1 + 1, 0, none⟩ = some (.int .i64 4) := Za1.out.cell 0
      have ca1_1 : u1.cell? ⟨w.heap.size + 1 + 1, 1, none⟩ = some (.int .i64 op) := Za1.out.cell 1
      have ca1_2 : u1.cell? ⟨w.heap.size + 1 + 1, 2, none⟩ = some (.int .i64 a) := Za1.out.cell 2
      have ca1_3 : u1.cell? ⟨w.heap.size + 1 + 1, 3, none⟩ = some (.int .i64 b) := Za1.out.cell 3
      have ca1_4 : u1.cell? ⟨w.heap.size + 1 + 1, 4, none⟩ = some (.int .i64 d) := Za1.out.cell 4
      have ca1_5 : u1.cell? ⟨w.heap.size + 1 + 1, 5, none⟩ = some (.int .u64 x) := Za1.out.cell 5
      have ca1_6 : u1.cell? ⟨w.heap.size + 1 + 1, 6, none⟩ = some (.int .u64 ga) := Za1.out.cell 6
      have ca1_7 : u1.cell? ⟨w.heap.size + 1 + 1, 7, none⟩ = some (.int .i64 gc) := Za1.out.cell 7
      go_wp2_with fail
      clear ls1 cs1_0 cs1_1 cs1_2 cs1_3 cs1_4 cs1_5 cs1_6 cs1_7 cs1_8 cs1_9 cs1_10 cs1_11 cs1_12 la1 ca1_0 ca1_1 ca1_2 ca1_3 ca1_4 ca1_5 ca1_6 ca1_7
      refine (Cy.out _).mono ?_
      rintro e u2 ⟨rfl, hb⟩
      have B2 : Hid (Below w.heap.size w u2) := below_then (B1.out) hb
      have Zs2 : Hid (Blk u2 (w.heap.size) [.int .u64 r0, .int .u64 r1, .int .u64 r2, .int .u64 r3, .int .i64 t, .int .u64 en, .bool i, .int .u64 fa, .int .i64 fc, .int .u64 p0, .int .u64 p1, .int .u64 p2, .int .u64 p3] 28) := Zs1.out.below hb
      have Zx2 : Hid (Blk u2 (w.heap.size + 1) [.int .u64 x0, .int .u64 x1, .int .u64 x2, .int .u64 x3, .int .i64 x4, .int .u64 x5, .bool x6, .int .u64 x7, .int .i64 x8, .int .u64 x9, .int .u64 x10, .int .u64 x11, .int .u64 x12] 31) := Zx1.out.below hb
      have Za2 : Hid (Blk u2 (w.heap.size + 1 + 1) [.int .i64 4, .int .i64 op, .int .i64 a, .int .i64 b, .int .i64 d, .int .u64 x, .int .u64 ga, .int .i64 gc] 37) := Za1.out.below hb
      have Zg2 : Hid (Blk u2 (w.heap.size + 1 + 1 + 1) [.int .u64 0, .int .u64 0, .int .u64 0, .int .u64 0, .int .i64 0, .int .u64 0, .bool false, .int .u64 0, .int .i64 0, .int .u64 0, .int .u64 0, .int .u64 0, .int .u64 0] 28) := Zg1.out.below hb
      have Zh2 : Hid (Blk u2 (w.heap.size + 1 + 1 + 1 + 1) [.int .u64 0, .int .u64 0, .int .u64 0, .int .u64 0, .int .i64 0, .int .u64 0, .bool false, .int .u64 0, .int .i64 0, .int .u64 0, .int .u64 0, .int .u64 0, .int .u64 0] 31) := Zh1.out.below hb
      clear hb B1 Zs1 Zx1 Za1 Zg1 Zh1 Cy
      rename_i hcont
      refine hcont _ _ ?_
      clear hcont
      iterate 9 go_step
      refine store_pat (w.heap.size) 0 #[.int .u64 y0, .int .u64 y1, .int .u64 y2, .int .u64 y3, .int .i64 y4, .int .u64 y5, .bool y6, .int .u64 y7, .int .i64 y8, .int .u64 y9, .int .u64 y10, .int .u64 y11, .int .u64 y12] rfl rfl Zs2.out.there st_info (by simp [Value.oneCell']) ?_
      simp only [List.toList_toArray]
      generalize hv : World.setCells u2 (w.heap.size) 0 [.int .u64 y0, .int .u64 y1, .int .u64 y2, .int .u64 y3, .int .i64 y4, .int .u64 y5, .bool y6, .int .u64 y7, .int .i64 y8, .int .u64 y9, .int .u64 y10, .int .u64 y11, .int .u64 y12] = u3
      have Zs3 : Hid (Blk u3 (w.heap.size) [.int .u64 y0, .int .u64 y1, .int .u64 y2, .int .u64 y3, .int .i64 y4, .int .u64 y5, .bool y6, .int .u64 y7, .int .i64 y8, .int .u64 y9, .int .u64 y10, .int .u64 y11, .int .u64 y12] 28) := by rw [← hv]; exact Zs2.out.scsame _ 0
      have Zx3 : Hid (Blk u3 (w.heap.size + 1) [.int .u64 x0, .int .u64 x1, .int .u64 x2, .int .u64 x3, .int .i64 x4, .int .u64 x5, .bool x6, .int .u64 x7, .int .i64 x8, .int .u64 x9, .int .u64 x10, .int .u64 x11, .int .u64 x12] 31) := by rw [← hv]; exact Zx2.out.scs (by omega) _ 0
      have Za3 : Hid (Blk u3 (w.heap.size + 1 + 1) [.int .i64 4, .int .i64 op, .int .i64 a, .int .i64 b, .int .i64 d, .int .u64 x, .int .u64 ga, .int .i64 gc] 37) := by rw [← hv]; exact Za2.out.scs (by omega) _ 0
      have Zg3 : Hid (Blk u3 (w.heap.size + 1 + 1 + 1) [.int .u64 0, .int .u64 0, .int .u64 0, .int .u64 0, .int .i64 0, .int .u64 0, .bool false, .int .u64 0, .int .i64 0, .int .u64 0, .int .u64 0, .int .u64 0, .int .u64 0] 28) := by rw [← hv]; exact Zg2.out.scs (by omega) _ 0
      have Zh3 : Hid (Blk u3 (w.heap.size + 1 + 1 + 1 + 1) [.int .u64 0, .int .u64 0, .int .u64 0, .int .u64 0, .int .i64 0, .int .u64 0, .bool false, .int .u64 0, .int .i64 0, .int .u64 0, .int .u64 0, .int .u64 0, .int .u64 0] 31) := by rw [← hv]; exact Zh2.out.scs (by omega) _ 0
      have B3 : Hid (Below w.heap.size w u3) := by rw [← hv]; exact below_scs B2.out (by omega) _ 0
      clear hv B2 Zs2 Zx2 Za2 Zg2 Zh2
      have lx3 : w.heap.size + 1 < u3.heap.size := blk_lt Zx3.out
      have cx3_0 : u3.cell? ⟨w.heap.size + 1, 0, none⟩ = some (.int .u64 x0) := Zx3.out.cell 0
      have cx3_1 : u3.cell? ⟨w.heap.size + 1, 1, none⟩ = some (.int .u64 x1) := Zx3.out.cell 1
      have cx3_2 : u3.cell? ⟨w.heap.size + 1, 2, none⟩ = some (.int .u64 x2) := Zx3.out.cell 2
      have cx3_3 : u3.cell? ⟨w.heap.size + 1, 3, none⟩ = some (.int .u64 x3) := Zx3.out.cell 3
      have cx3_4 : u3.cell? ⟨w.heap.size + 1, 4, none⟩ = some (.int .i64 x4) := Zx3.out.cell 4
      have cx3_5 : u3.cell? ⟨w.heap.size + 1, 5, none⟩ = some (.int .u64 x5) := Zx3.out.cell 5
      have cx3_6 : u3.cell? ⟨w.heap.size + 1, 6, none⟩ = some (.bool x6) := Zx3.out.cell 6
      have cx3_7 : u3.cell? ⟨w.heap.size + 1, 7, none⟩ = some (.int .u64 x7) := Zx3.out.cell 7
      have cx3_8 : u3.cell? ⟨w.heap.size + 1, 8, none⟩ = some (.int .i64 x8) := Zx3.out.cell 8
      have cx3_9 : u3.cell? ⟨w.heap.size + 1, 9, none⟩ = some (.int .u64 x9) := Zx3.out.cell 9
      have cx3_10 : u3.cell? ⟨w.heap.size + 1, 10, none⟩ = some (.int .u64 x10) := Zx3.out.cell 10
      have cx3_11 : u3.cell? ⟨w.heap.size + 1, 11, none⟩ = some (.int .u64 x11) := Zx3.out.cell 11
      have cx3_12 : u3.cell? ⟨w.heap.size + 1, 12, none⟩ = some (.int .u64 x12) := Zx3.out.cell 12
      have la3 : w.heap.size + 1 + 1 < u3.heap.size := blk_lt Za3.out
      have ca3_0 : u3.cell? ⟨w.heap.size + 1 + 1, 0, none⟩ = some (.int .i64 4) := Za3.out.cell 0
      have ca3_1 : u3.cell? ⟨w.heap.size + 1 + 1, 1, none⟩ = some (.int .i64 op) := Za3.out.cell 1
      have ca3_2 : u3.cell? ⟨w.heap.size + 1 + 1, 2, none⟩ = some (.int .i64 a) := Za3.out.cell 2
      have ca3_3 : u3.cell? ⟨w.heap.size + 1 + 1, 3, none⟩ = some (.int .i64 b) := Za3.out.cell 3
      have ca3_4 : u3.cell? ⟨w.heap.size + 1 + 1, 4, none⟩ = some (.int .i64 d) := Za3.out.cell 4
      have ca3_5 : u3.cell? ⟨w.heap.size + 1 + 1, 5, none⟩ = some (.int .u64 x) := Za3.out.cell 5
      have ca3_6 : u3.cell? ⟨w.heap.size + 1 + 1, 6, none⟩ = some (.int .u64 ga) := Za3.out.cell 6
      have ca3_7 : u3.cell? ⟨w.heap.size + 1 + 1, 7, none⟩ = some (.int .i64 gc) := Za3.out.cell 7
      go_wp2_with fail
      clear lx3 cx3_0 cx3_1 cx3_2 cx3_3 cx3_4 cx3_5 cx3_6 cx3_7 cx3_8 cx3_9 cx3_10 cx3_11 cx3_12 la3 ca3_0 ca3_1 ca3_2 ca3_3 ca3_4 ca3_5 ca3_6 ca3_7
      refine (Cz.out _).mono ?_
      rintro e u4 ⟨rfl, hb⟩
      have B4 : Hid (Below w.heap.size w u4) := below_then (B3.out) hb
      have Zs4 : Hid (Blk u4 (w.heap.size) [.int .u64 y0, .int .u64 y1, .int .u64 y2, .int .u64 y3, .int .i64 y4, .int .u64 y5, .bool y6, .int .u64 y7, .int .i64 y8, .int .u64 y9, .int .u64 y10, .int .u64 y11, .int .u64 y12] 28) := Zs3.out.below hb
      have Zx4 : Hid (Blk u4 (w.heap.size + 1) [.int .u64 x0, .int .u64 x1, .int .u64 x2, .int .u64 x3, .int .i64 x4, .int .u64 x5, .bool x6, .int .u64 x7, .int .i64 x8, .int .u64 x9, .int .u64 x10, .int .u64 x11, .int .u64 x12] 31) := Zx3.out.below hb
      have Zg4 : Hid (Blk u4 (w.heap.size + 1 + 1 + 1) [.int .u64 0, .int .u64 0, .int .u64 0, .int .u64 0, .int .i64 0, .int .u64 0, .bool false, .int .u64 0, .int .i64 0, .int .u64 0, .int .u64 0, .int .u64 0, .int .u64 0] 28) := Zg3.out.below hb
      have Zh4 : Hid (Blk u4 (w.heap.size + 1 + 1 + 1 + 1) [.int .u64 0, .int .u64 0, .int .u64 0, .int .u64 0, .int .i64 0, .int .u64 0, .bool false, .int .u64 0, .int .i64 0, .int .u64 0, .int .u64 0, .int .u64 0, .int .u64 0] 31) := Zh3.out.below hb
      clear hb B3 Zs3 Zx3 Za3 Zg3 Zh3 Cz
      rename_i hcont
      refine hcont _ _ ?_
      clear hcont
      iterate 9 go_step
      refine store_pat (w.heap.size + 1) 0 #[.int .u64 z0, .int .u64 z1, .int .u64 z2, .int .u64 z3, .int .i64 z4, .int .u64 z5, .bool z6, .int .u64 z7, .int .i64 z8, .int .u64 z9, .int .u64 z10, .int .u64 z11, .int .u64 z12] rfl rfl Zx4.out.there sx_info (by simp [Value.oneCell']) ?_
      simp only [List.toList_toArray]
      generalize hv : World.setCells u4 (w.heap.size + 1) 0 [.int .u64 z0, .int .u64 z1, .int .u64 z2, .int .u64 z3, .int .i64 z4, .int .u64 z5, .bool z6, .int .u64 z7, .int .i64 z8, .int .u64 z9, .int .u64 z10, .int .u64 z11, .int .u64 z12] = u5
      have Zs5 : Hid (Blk u5 (w.heap.size) [.int .u64 y0, .int .u64 y1, .int .u64 y2, .int .u64 y3, .int .i64 y4, .int .u64 y5, .bool y6, .int .u64 y7, .int .i64 y8, .int .u64 y9, .int .u64 y10, .int .u64 y11, .int .u64 y12] 28) := by rw [← hv]; exact Zs4.out.scs (by omega) _ 0
      have Zx5 : Hid (Blk u5 (w.heap.size + 1) [.int .u64 z0, .int .u64 z1, .int .u64 z2, .int .u64 z3, .int .i64 z4, .int .u64 z5, .bool z6, .int .u64 z7, .int .i64 z8, .int .u64 z9, .int .u64 z10, .int .u64 z11, .int .u64 z12] 31) := by rw [← hv]; exact Zx4.out.scsame _ 0
      have Zg5 : Hid (Blk u5 (w.heap.size + 1 + 1 + 1) [.int .u64 0, .int .u64 0, .int .u64 0, .int .u64 0, .int .i64 0, .int .u64 0, .bool false, .int .u64 0, .int .i64 0, .int .u64 0, .int .u64 0, .int .u64 0, .int .u64 0] 28) := by rw [← hv]; exact Zg4.out.scs (by omega) _ 0
      have Zh5 : Hid (Blk u5 (w.heap.size + 1 + 1 + 1 + 1) [.int .u64 0, .int .u64 0, .int .u64 0, .int .u64 0, .int .i64 0, .int .u64 0, .bool false, .int .u64 0, .int .i64 0, .int .u64 0, .int .u64 0, .int .u64 0, .int .u64 0] 31) := by rw [← hv]; exact Zh4.out.scs (by omega) _ 0
      have B5 : Hid (Below w.heap.size w u5) := by rw [← hv]; exact below_scs B4.out (by omega) _ 0
      clear hv B4 Zs4 Zx4 Zg4 Zh4
      go_wp2_with fail
      go_meet
      exact ⟨⟨y0, y1, y2, y3, y4, y5, y6, y7, y8, y9, y10, y11, y12⟩, ⟨z0, z1, z2, z3, z4, z5, z6, z7, z8, z9, z10, z11, z12⟩, ye, ze, rfl, rfl, ⟨qy.out.1, qz.out.1, qy.out.2, qz.out.2⟩, Zs5, Zx5, Zg5, Zh5, B5⟩
    have c4' : (kd == 4) = false := by simp [c4]
    by_cases c5 : kd = 5
    · subst c5
      obtain ⟨ys, ye, Cy, qy⟩ : ∃ (y : St) (e0 : Int), Hid (∀ W : World, Calls Try.prog 12 #[.agg #[.int .u64 r0, .int .u64 r1, .int .u64 r2, .int .u64 r3, .int .i64 t, .int .u64 en, .bool i, .int .u64 fa, .int .i64 fc, .int .u64 p0, .int .u64 p1, .int .u64 p2, .int .u64 p3], .int .i64 op, .int .i64 a, .int .i64 b, .int .i64 d] W fun e w' => e = .returned (.tuple #[y.val, .int .i64 e0]) ∧ Below W.heap.size W w') ∧ Hid (y = actS S A ∧ e0 = actE S A) := ⟨reckonS S op a b d, reckonE op a b d, fun W => by
          have h := reckon_all S op a b d hS.out W
          rw [HQS.out] at h ⊢
          exact h, by
          show _ ∧ _
          rw [HA.out]; exact ⟨rfl, rfl⟩⟩
      obtain ⟨y0, y1, y2, y3, y4, y5, y6, y7, y8, y9, y10, y11, y12⟩ := ys
      obtain ⟨zs, ze, Cz, qz⟩ : ∃ (y : St) (e0 : Int), Hid (∀ W : World, Calls Try.prog 20 #[.agg #[.int .u64 x0, .int .u64 x1, .int .u64 x2, .int .u64 x3, .int .i64 x4, .int .u64 x5, .bool x6, .int .u64 x7, .int .i64 x8, .int .u64 x9, .int .u64 x10, .int .u64 x11, .int .u64 x12], .int .i64 op, .int .i64 a, .int .i64 b, .int .i64 d] W fun e w' => e = .returned (.tuple #[y.val, .int .i64 e0]) ∧ Below W.heap.size W w') ∧ Hid (y = actS X A ∧ e0 = actE X A) := ⟨reckonS X op a b d, reckonE op a b d, fun W => by
          have h := rreckon_all X op a b d hX.out W
          rw [HQX.out] at h ⊢
          exact h, by
          show _ ∧ _
          rw [HA.out]; exact ⟨rfl, rfl⟩⟩
      obtain ⟨z0, z1, z2, z3, z4, z5, z6, z7, z8, z9, z10, z11, z12⟩ := zs
      have ls1 : w.heap.size < u1.heap.size := blk_lt Zs1.out
      have cs1_0 : u1.cell? ⟨w.heap.size, 0, none⟩ = some (.int .u64 r0) := Zs1.out.cell 0
      have cs1_1 : u1.cell? ⟨w.heap.size, 1, none⟩ = some (.int .u64 r1) := Zs1.out.cell 1
      have cs1_2 : u1.cell? ⟨w.heap.size, 2, none⟩ = some (.int .u64 r2) := Zs1.out.cell 2
      have cs1_3 : u1.cell? ⟨w.heap.size, 3, none⟩ = some (.int .u64 r3) := Zs1.out.cell 3
      have cs1_4 : u1.cell? ⟨w.heap.size, 4, none⟩ = some (.int .i64 t) := Zs1.out.cell 4
      have cs1_5 : u1.cell? ⟨w.heap.size, 5, none⟩ = some (.int .u64 en) := Zs1.out.cell 5
      have cs1_6 : u1.cell? ⟨w.heap.size, 6, none⟩ = some (.bool i) := Zs1.out.cell 6
      have cs1_7 : u1.cell? ⟨w.heap.size, 7, none⟩ = some (.int .u64 fa) := Zs1.out.cell 7
      have cs1_8 : u1.cell? ⟨w.heap.size, 8, none⟩ = some (.int .i64 fc) := Zs1.out.cell 8
      have cs1_9 : u1.cell? ⟨w.heap.size, 9, none⟩ = some (.int .u64 p0) := Zs1.out.cell 9
      have cs1_10 : u1.cell? ⟨w.heap.size, 10, none⟩ = some (.int .u64 p1) := Zs1.out.cell 10
      have cs1_11 : u1.cell? ⟨w.heap.size, 11, none⟩ = some (.int .u64 p2) := Zs1.out.cell 11
      have cs1_12 : u1.cell? ⟨w.heap.size, 12, none⟩ = some (.int .u64 p3) := Zs1.out.cell 12
      have la1 : w.heap.size + 1 + 1 < u1.heap.size := blk_lt Za1.out
      have ca1_0 : u1.cell? ⟨w.heap.size + 1 + 1, 0, none⟩ = some (.int .i64 5) := Za1.out.cell 0
      have ca1_1 : u1.cell? ⟨w.heap.size + 1 + 1, 1, none⟩ = some (.int .i64 op) := Za1.out.cell 1
      have ca1_2 : u1.cell? ⟨w.heap.size + 1 + 1, 2, none⟩ = some (.int .i64 a) := Za1.out.cell 2
      have ca1_3 : u1.cell? ⟨w.heap.size + 1 + 1, 3, none⟩ = some (.int .i64 b) := Za1.out.cell 3
      have ca1_4 : u1.cell? ⟨w.heap.size + 1 + 1, 4, none⟩ = some (.int .i64 d) := Za1.out.cell 4
      have ca1_5 : u1.cell? ⟨w.heap.size + 1 + 1, 5, none⟩ = some (.int .u64 x) := Za1.out.cell 5
      have ca1_6 : u1.cell? ⟨w.heap.size + 1 + 1, 6, none⟩ = some (.int .u64 ga) := Za1.out.cell 6
      have ca1_7 : u1.cell? ⟨w.heap.size + 1 + 1, 7, none⟩ = some (.int .i64 gc) := Za1.out.cell 7
      go_wp2_with fail
      clear ls1 cs1_0 cs1_1 cs1_2 cs1_3 cs1_4 cs1_5 cs1_6 cs1_7 cs1_8 cs1_9 cs1_10 cs1_11 cs1_12 la1 ca1_0 ca1_1 ca1_2 ca1_3 ca1_4 ca1_5 ca1_6 ca1_7
      refine (Cy.out _).mono ?_
      rintro e u2 ⟨rfl, hb⟩
      have B2 : Hid (Below w.heap.size w u2) := below_then (B1.out) hb
      have Zs2 : Hid (Blk u2 (w.heap.size) [.int .u64 r0, .int .u64 r1, .int .u64 r2, .int .u64 r3, .int .i64 t, .int .u64 en, .bool i, .int .u64 fa, .int .i64 fc, .int .u64 p0, .int .u64 p1, .int .u64 p2, .int .u64 p3] 28) := Zs1.out.below hb
      have Zx2 : Hid (Blk u2 (w.heap.size + 1) [.int .u64 x0, .int .u64 x1, .int .u64 x2, .int .u64 x3, .int .i64 x4, .int .u64 x5, .bool x6, .int .u64 x7, .int .i64 x8, .int .u64 x9, .int .u64 x10, .int .u64 x11, .int .u64 x12] 31) := Zx1.out.below hb
      have Za2 : Hid (Blk u2 (w.heap.size + 1 + 1) [.int .i64 5, .int .i64 op, .int .i64 a, .int .i64 b, .int .i64 d, .int .u64 x, .int .u64 ga, .int .i64 gc] 37) := Za1.out.below hb
      have Zg2 : Hid (Blk u2 (w.heap.size + 1 + 1 + 1) [.int .u64 0, .int .u64 0, .int .u64 0, .int .u64 0, .int .i64 0, .int .u64 0, .bool false, .int .u64 0, .int .i64 0, .int .u64 0, .int .u64 0, .int .u64 0, .int .u64 0] 28) := Zg1.out.below hb
      have Zh2 : Hid (Blk u2 (w.heap.size + 1 + 1 + 1 + 1) [.int .u64 0, .int .u64 0, .int .u64 0, .int .u64 0, .int .i64 0, .int .u64 0, .bool false, .int .u64 0, .int .i64 0, .int .u64 0, .int .u64 0, .int .u64 0, .int .u64 0] 31) := Zh1.out.below hb
      clear hb B1 Zs1 Zx1 Za1 Zg1 Zh1 Cy
      rename_i hcont
      refine hcont _ _ ?_
      clear hcont
      iterate 9 go_step
      refine store_pat (w.heap.size) 0 #[.int .u64 y0, .int .u64 y1, .int .u64 y2, .int .u64 y3, .int .i64 y4, .int .u64 y5, .bool y6, .int .u64 y7, .int .i64 y8, .int .u64 y9, .int .u64 y10, .int .u64 y11, .int .u64 y12] rfl rfl Zs2.out.there st_info (by simp [Value.oneCell']) ?_
      simp only [List.toList_toArray]
      generalize hv : World.setCells u2 (w.heap.size) 0 [.int .u64 y0, .int .u64 y1, .int .u64 y2, .int .u64 y3, .int .i64 y4, .int .u64 y5, .bool y6, .int .u64 y7, .int .i64 y8, .int .u64 y9, .int .u64 y10, .int .u64 y11, .int .u64 y12] = u3
      have Zs3 : Hid (Blk u3 (w.heap.size) [.int .u64 y0, .int .u64 y1, .int .u64 y2, .int .u64 y3, .int .i64 y4, .int .u64 y5, .bool y6, .int .u64 y7, .int .i64 y8, .int .u64 y9, .int .u64 y10, .int .u64 y11, .int .u64 y12] 28) := by rw [← hv]; exact Zs2.out.scsame _ 0
      have Zx3 : Hid (Blk u3 (w.heap.size + 1) [.int .u64 x0, .int .u64 x1, .int .u64 x2, .int .u64 x3, .int .i64 x4, .int .u64 x5, .bool x6, .int .u64 x7, .int .i64 x8, .int .u64 x9, .int .u64 x10, .int .u64 x11, .int .u64 x12] 31) := by rw [← hv]; exact Zx2.out.scs (by omega) _ 0
      have Za3 : Hid (Blk u3 (w.heap.size + 1 + 1) [.int .i64 5, .int .i64 op, .int .i64 a, .int .i64 b, .int .i64 d, .int .u64 x, .int .u64 ga, .int .i64 gc] 37) := by rw [← hv]; exact Za2.out.scs (by omega) _ 0
      have Zg3 : Hid (Blk u3 (w.heap.size + 1 + 1 + 1) [.int .u64 0, .int .u64 0, .int .u64 0, .int .u64 0, .int .i64 0, .int .u64 0, .bool false, .int .u64 0, .int .i64 0, .int .u64 0, .int .u64 0, .int .u64 0, .int .u64 0] 28) := by rw [← hv]; exact Zg2.out.scs (by omega) _ 0
      have Zh3 : Hid (Blk u3 (w.heap.size + 1 + 1 + 1 + 1) [.int .u64 0, .int .u64 0, .int .u64 0, .int .u64 0, .int .i64 0, .int .u64 0, .bool false, .int .u64 0, .int .i64 0, .int .u64 0, .int .u64 0, .int .u64 0, .int .u64 0] 31) := by rw [← hv]; exact Zh2.out.scs (by omega) _ 0
      have B3 : Hid (Below w.heap.size w u3) := by rw [← hv]; exact below_scs B2.out (by omega) _ 0
      clear hv B2 Zs2 Zx2 Za2 Zg2 Zh2
      have lx3 : w.heap.size + 1 < u3.heap.size := blk_lt Zx3.out
      have cx3_0 : u3.cell? ⟨w.heap.size + 1, 0, none⟩ = some (.int .u64 x0) := Zx3.out.cell 0
      have cx3_1 : u3.cell? ⟨w.heap.size + 1, 1, none⟩ = some (.int .u64 x1) := Zx3.out.cell 1
      have cx3_2 : u3.cell? ⟨w.heap.size + 1, 2, none⟩ = some (.int .u64 x2) := Zx3.out.cell 2
      have cx3_3 : u3.cell? ⟨w.heap.size + 1, 3, none⟩ = some (.int .u64 x3) := Zx3.out.cell 3
      have cx3_4 : u3.cell? ⟨w.heap.size + 1, 4, none⟩ = some (.int .i64 x4) := Zx3.out.cell 4
      have cx3_5 : u3.cell? ⟨w.heap.size + 1, 5, none⟩ = some (.int .u64 x5) := Zx3.out.cell 5
      have cx3_6 : u3.cell? ⟨w.heap.size + 1, 6, none⟩ = some (.bool x6) := Zx3.out.cell 6
      have cx3_7 : u3.cell? ⟨w.heap.size + 1, 7, none⟩ = some (.int .u64 x7) := Zx3.out.cell 7
      have cx3_8 : u3.cell? ⟨w.heap.size + 1, 8, none⟩ = some (.int .i64 x8) := Zx3.out.cell 8
      have cx3_9 : u3.cell? ⟨w.heap.size + 1, 9, none⟩ = some (.int .u64 x9) := Zx3.out.cell 9
      have cx3_10 : u3.cell? ⟨w.heap.size + 1, 10, none⟩ = some (.int .u64 x10) := Zx3.out.cell 10
      have cx3_11 : u3.cell? ⟨w.heap.size + 1, 11, none⟩ = some (.int .u64 x11) := Zx3.out.cell 11
      have cx3_12 : u3.cell? ⟨w.heap.size + 1, 12, none⟩ = some (.int .u64 x12) := Zx3.out.cell 12
      have la3 : w.heap.size + 1 + 1 < u3.heap.size := blk_lt Za3.out
      have ca3_0 : u3.cell? ⟨w.heap.size + 1 + 1, 0, none⟩ = some (.int .i64 5) := Za3.out.cell 0
      have ca3_1 : u3.cell? ⟨w.heap.size + 1 + 1, 1, none⟩ = some (.int .i64 op) := Za3.out.cell 1
      have ca3_2 : u3.cell? ⟨w.heap.size + 1 + 1, 2, none⟩ = some (.int .i64 a) := Za3.out.cell 2
      have ca3_3 : u3.cell? ⟨w.heap.size + 1 + 1, 3, none⟩ = some (.int .i64 b) := Za3.out.cell 3
      have ca3_4 : u3.cell? ⟨w.heap.size + 1 + 1, 4, none⟩ = some (.int .i64 d) := Za3.out.cell 4
      have ca3_5 : u3.cell? ⟨w.heap.size + 1 + 1, 5, none⟩ = some (.int .u64 x) := Za3.out.cell 5
      have ca3_6 : u3.cell? ⟨w.heap.size + 1 + 1, 6, none⟩ = some (.int .u64 ga) := Za3.out.cell 6
      have ca3_7 : u3.cell? ⟨w.heap.size + 1 + 1, 7, none⟩ = some (.int .i64 gc) := Za3.out.cell 7
      go_wp2_with fail
      clear lx3 cx3_0 cx3_1 cx3_2 cx3_3 cx3_4 cx3_5 cx3_6 cx3_7 cx3_8 cx3_9 cx3_10 cx3_11 cx3_12 la3 ca3_0 ca3_1 ca3_2 ca3_3 ca3_4 ca3_5 ca3_6 ca3_7
      refine (Cz.out _).mono ?_
      rintro e u4 ⟨rfl, hb⟩
      have B4 : Hid (Below w.heap.size w u4) := below_then (B3.out) hb
      have Zs4 : Hid (Blk u4 (w.heap.size) [.int .u64 y0, .int .u64 y1, .int .u64 y2, .int .u64 y3, .int .i64 y4, .int .u64 y5, .bool y6, .int .u64 y7, .int .i64 y8, .int .u64 y9, .int .u64 y10, .int .u64 y11, .int .u64 y12] 28) := Zs3.out.below hb
      have Zx4 : Hid (Blk u4 (w.heap.size + 1) [.int .u64 x0, .int .u64 x1, .int .u64 x2, .int .u64 x3, .int .i64 x4, .int .u64 x5, .bool x6, .int .u64 x7, .int .i64 x8, .int .u64 x9, .int .u64 x10, .int .u64 x11, .int .u64 x12] 31) := Zx3.out.below hb
      have Zg4 : Hid (Blk u4 (w.heap.size + 1 + 1 + 1) [.int .u64 0, .int .u64 0, .int .u64 0, .int .u64 0, .int .i64 0, .int .u64 0, .bool false, .int .u64 0, .int .i64 0, .int .u64 0, .int .u64 0, .int .u64 0, .int .u64 0] 28) := Zg3.out.below hb
      have Zh4 : Hid (Blk u4 (w.heap.size + 1 + 1 + 1 + 1) [.int .u64 0, .int .u64 0, .int .u64 0, .int .u64 0, .int .i64 0, .int .u64 0, .bool false, .int .u64 0, .int .i64 0, .int .u64 0, .int .u64 0, .int .u64 0, .int .u64 0] 31) := Zh3.out.below hb
      clear hb B3 Zs3 Zx3 Za3 Zg3 Zh3 Cz
      rename_i hcont
      refine hcont _ _ ?_
      clear hcont
      iterate 9 go_step
      refine store_pat (w.heap.size + 1) 0 #[.int .u64 z0, .int .u64 z1, .int .u64 z2, .int .u64 z3, .int .i64 z4, .int .u64 z5, .bool z6, .int .u64 z7, .int .i64 z8, .int .u64 z9, .int .u64 z10, .int .u64 z11, .int .u64 z12] rfl rfl Zx4.out.there sx_info (by simp [Value.oneCell']) ?_
      simp only [List.toList_toArray]
      generalize hv : World.setCells u4 (w.heap.size + 1) 0 [.int .u64 z0, .int .u64 z1, .int .u64 z2, .int .u64 z3, .int .i64 z4, .int .u64 z5, .bool z6, .int .u64 z7, .int .i64 z8, .int .u64 z9, .int .u64 z10, .int .u64 z11, .int .u64 z12] = u5
      have Zs5 : Hid (Blk u5 (w.heap.size) [.int .u64 y0, .int .u64 y1, .int .u64 y2, .int .u64 y3, .int .i64 y4, .int .u64 y5, .bool y6, .int .u64 y7, .int .i64 y8, .int .u64 y9, .int .u64 y10, .int .u64 y11, .int .u64 y12] 28) := by rw [← hv]; exact Zs4.out.scs (by omega) _ 0
      have Zx5 : Hid (Blk u5 (w.heap.size + 1) [.int .u64 z0, .int .u64 z1, .int .u64 z2, .int .u64 z3, .int .i64 z4, .int .u64 z5, .bool z6, .int .u64 z7, .int .i64 z8, .int .u64 z9, .int .u64 z10, .int .u64 z11, .int .u64 z12] 31) := by rw [← hv]; exact Zx4.out.scsame _ 0
      have Zg5 : Hid (Blk u5 (w.heap.size + 1 + 1 + 1) [.int .u64 0, .int .u64 0, .int .u64 0, .int .u64 0, .int .i64 0, .int .u64 0, .bool false, .int .u64 0, .int .i64 0, .int .u64 0, .int .u64 0, .int .u64 0, .int .u64 0] 28) := by rw [← hv]; exact Zg4.out.scs (by omega) _ 0
      have Zh5 : Hid (Blk u5 (w.heap.size + 1 + 1 + 1 + 1) [.int .u64 0, .int .u64 0, .int .u64 0, .int .u64 0, .int .i64 0, .int .u64 0, .bool false, .int .u64 0, .int .i64 0, .int .u64 0, .int .u64 0, .int .u64 0, .int .u64 0] 31) := by rw [← hv]; exact Zh4.out.scs (by omega) _ 0
      have B5 : Hid (Below w.heap.size w u5) := by rw [← hv]; exact below_scs B4.out (by omega) _ 0
      clear hv B4 Zs4 Zx4 Zg4 Zh4
      go_wp2_with fail
      go_meet
      exact ⟨⟨y0, y1, y2, y3, y4, y5, y6, y7, y8, y9, y10, y11, y12⟩, ⟨z0, z1, z2, z3, z4, z5, z6, z7, z8, z9, z10, z11, z12⟩, ye, ze, rfl, rfl, ⟨qy.out.1, qz.out.1, qy.out.2, qz.out.2⟩, Zs5, Zx5, Zg5, Zh5, B5⟩
    have c5' : (kd == 5) = false := by simp [c5]
    go_wp2_with fail
    go_meet
    exact ⟨⟨r0, r1, r2, r3, t, en, i, fa, fc, p0, p1, p2, p3⟩, ⟨x0, x1, x2, x3, x4, x5, x6, x7, x8, x9, x10, x11, x12⟩, 0, 0, rfl, rfl, by show _ ∧ _ ∧ _ ∧ _; rw [HA.out, HQS.out, HQX.out]; simp [actS, actE, c1, c2, c3, c4, c5], Zs1, Zx1, Zg1, Zh1, B1⟩
  case rest =>
    obtain ⟨s2, x2, E, F, rfl, rfl, hq, Zs, Zx, Zg, Zh, BW⟩ := hcut
    obtain ⟨y0, y1, y2, y3, y4, y5, y6, y7, y8, y9, y10, y11, y12⟩ := s2
    obtain ⟨z0, z1, z2, z3, z4, z5, z6, z7, z8, z9, z10, z11, z12⟩ := x2
    have TO : Hid (∀ W : World, Calls Try.prog 7 #[.agg #[.int .u64 y0, .int .u64 y1, .int .u64 y2, .int .u64 y3, .int .i64 y4, .int .u64 y5, .bool y6, .int .u64 y7, .int .i64 y8, .int .u64 y9, .int .u64 y10, .int .u64 y11, .int .u64 y12]] W fun e w' => e = .returned (.agg #[.int .u64 y0, .int .u64 y1, .int .u64 y2, .int .u64 y3, .int .i64 y4, .int .u64 y5, .bool y6, .int .u64 y7, .int .i64 y8, .int .u64 y9, .int .u64 y10, .int .u64 y11, .int .u64 y12]) ∧ Below W.heap.size W w') := fun W => told_st y0 y1 y2 y3 y4 y5 y6 y7 y8 y9 y10 y11 y12 W
    obtain ⟨D, hD⟩ : ∃ D : Bool, D = decide ((⟨y0, y1, y2, y3, y4, y5, y6, y7, y8, y9, y10, y11, y12⟩ : St) = ⟨z0, z1, z2, z3, z4, z5, z6, z7, z8, z9, z10, z11, z12⟩) := ⟨_, rfl⟩
    have EQ : ∀ W : World, (binOp .eql 31 (.agg #[.int .u64 y0, .int .u64 y1, .int .u64 y2, .int .u64 y3, .int .i64 y4, .int .u64 y5, .bool y6, .int .u64 y7, .int .i64 y8, .int .u64 y9, .int .u64 y10, .int .u64 y11, .int .u64 y12]) (.agg #[.int .u64 z0, .int .u64 z1, .int .u64 z2, .int .u64 z3, .int .i64 z4, .int .u64 z5, .bool z6, .int .u64 z7, .int .i64 z8, .int .u64 z9, .int .u64 z10, .int .u64 z11, .int .u64 z12])).run Try.prog W = .ok (.bool D) W := fun W => by rw [hD]; exact eqX ⟨y0, y1, y2, y3, y4, y5, y6, y7, y8, y9, y10, y11, y12⟩ ⟨z0, z1, z2, z3, z4, z5, z6, z7, z8, z9, z10, z11, z12⟩ W
    have HD : Hid (D = decide ((⟨y0, y1, y2, y3, y4, y5, y6, y7, y8, y9, y10, y11, y12⟩ : St) = ⟨z0, z1, z2, z3, z4, z5, z6, z7, z8, z9, z10, z11, z12⟩)) := hD
    clear hD Zs1 Zx1 Za1 Zg1 Zh1 B1 k0 hS hX HQS HQX HA
    by_cases ef : E = F
    · subst ef
      have ee : (E == E) = true := by simp
      go_wp2_with fail
      refine wp_region_noPanic ?_
      refine wp_region_held_drew (S := fun c => Blk c (w.heap.size) [.int .u64 y0, .int .u64 y1, .int .u64 y2, .int .u64 y3, .int .i64 y4, .int .u64 y5, .bool y6, .int .u64 y7, .int .i64 y8, .int .u64 y9, .int .u64 y10, .int .u64 y11, .int .u64 y12] 28 ∧ Blk c (w.heap.size + 1) [.int .u64 z0, .int .u64 z1, .int .u64 z2, .int .u64 z3, .int .i64 z4, .int .u64 z5, .bool z6, .int .u64 z7, .int .i64 z8, .int .u64 z9, .int .u64 z10, .int .u64 z11, .int .u64 z12] 31 ∧ Hid (c.there (w.heap.size + 1 + 1 + 1) 0 13) ∧ Hid (c.there (w.heap.size + 1 + 1 + 1 + 1) 0 13) ∧ Below w.heap.size w c ∧ w.heap.size + 1 + 1 + 1 + 1 < c.heap.size) (by kernel_rfl) ?_ (fun hH => ?_)
      · exact ⟨Zs.out, Zx.out, Zg.out.there, Zh.out.there, below_drew BW.out, blk_lt Zh.out⟩
      clear Zs Zx Zg Zh BW
      refine wpAnyH_take (i := 0) (oi := ⟨some 105, _, _, _, _, none⟩) (v := .agg #[.int .u64 y0, .int .u64 y1, .int .u64 y2, .int .u64 y3, .int .i64 y4, .int .u64 y5, .bool y6, .int .u64 y7, .int .i64 y8, .int .u64 y9, .int .u64 y10, .int .u64 y11, .int .u64 y12]) rfl (by kernel_rfl) (by kernel_rfl) (by kernel_rfl) (fun _ _ _ h => h) (yieldsIf_load_mid (by rfl) 28 _ rfl (w.heap.size) 0 rfl [.int .u64 y0, .int .u64 y1, .int .u64 y2, .int .u64 y3, .int .i64 y4, .int .u64 y5, .bool y6, .int .u64 y7, .int .i64 y8, .int .u64 y9, .int .u64 y10, .int .u64 y11, .int .u64 y12] _ (fun _ h => Blk.range h.1) Try.underlying28 rfl st_info) (by assumption) ?_
      try simp only [Act.put, List.setIfInBounds_toArray, List.set_cons_zero, List.set_cons_succ]
      refine wpAnyH_take (i := 1) (oi := ⟨some 106, _, _, _, _, none⟩) (v := .agg #[.int .u64 z0, .int .u64 z1, .int .u64 z2, .int .u64 z3, .int .i64 z4, .int .u64 z5, .bool z6, .int .u64 z7, .int .i64 z8, .int .u64 z9, .int .u64 z10, .int .u64 z11, .int .u64 z12]) rfl (by kernel_rfl) (by kernel_rfl) (by kernel_rfl) (fun _ _ _ h => h) (yieldsIf_load_mid (by rfl) 31 _ rfl (w.heap.size + 1) 0 rfl [.int .u64 z0, .int .u64 z1, .int .u64 z2, .int .u64 z3, .int .i64 z4, .int .u64 z5, .bool z6, .int .u64 z7, .int .i64 z8, .int .u64 z9, .int .u64 z10, .int .u64 z11, .int .u64 z12] _ (fun _ h => Blk.range h.2.1) Try.underlying31 rfl sx_info) (by assumption) ?_
      try simp only [Act.put, List.setIfInBounds_toArray, List.set_cons_zero, List.set_cons_succ]
      refine wpAnyH_take (i := 2) (oi := ⟨some 107, _, _, _, _, none⟩) (v := ?_) rfl (by kernel_rfl) (by kernel_rfl) (by kernel_rfl) (fun _ _ _ h => h) (Or.inl ⟨by rfl, ?_⟩) (by assumption) ?_
      rotate_left
      · intro w hSw; (try dsimp only at hSw); go_simp; (try with_reducible rfl)
      try simp only [Act.put, List.setIfInBounds_toArray, List.set_cons_zero, List.set_cons_succ]
      refine wpAnyH_take (i := 3) (oi := ⟨some 108, _, _, _, _, none⟩) (v := ?_) rfl (by kernel_rfl) (by kernel_rfl) (by kernel_rfl) (fun _ _ _ h => h) (Or.inl ⟨by rfl, ?_⟩) (by assumption) ?_
      rotate_left
      · intro w hSw; (try dsimp only at hSw); go_simp; (try with_reducible rfl)
      try simp only [Act.put, List.setIfInBounds_toArray, List.set_cons_zero, List.set_cons_succ]
      refine wpAnyH_take (i := 4) (oi := ⟨some 109, _, _, _, _, none⟩) (v := .bool true) rfl (by kernel_rfl) (by kernel_rfl) (by kernel_rfl) (fun _ _ _ h => h) (Or.inl ⟨by rfl, ?_⟩) (by assumption) ?_
      · intro w hSw; go_simp; (try simp)
      try simp only [Act.put, List.setIfInBounds_toArray, List.set_cons_zero, List.set_cons_succ]
      refine wpAnyH_take (i := 5) (oi := ⟨some 110, _, _, _, _, none⟩) (v := ?_) rfl (by kernel_rfl) (by kernel_rfl) (by kernel_rfl) (fun _ _ _ h => h) (Or.inl ⟨by rfl, ?_⟩) (by assumption) ?_
      rotate_left
      · intro w hSw; (try dsimp only at hSw); go_simp; (try with_reducible rfl)
      try simp only [Act.put, List.setIfInBounds_toArray, List.set_cons_zero, List.set_cons_succ]
      refine wpAnyH_take (i := 6) (oi := ⟨some 111, _, _, _, _, some (5, true)⟩) (v := .agg #[.int .u64 y0, .int .u64 y1, .int .u64 y2, .int .u64 y3, .int .i64 y4, .int .u64 y5, .bool y6, .int .u64 y7, .int .i64 y8, .int .u64 y9, .int .u64 y10, .int .u64 y11, .int .u64 y12]) rfl (by kernel_rfl) (by kernel_rfl) (by kernel_rfl) (fun _ _ _ h => h) (yieldsIf_load_mid (by rfl) 28 _ rfl (w.heap.size) 0 rfl [.int .u64 y0, .int .u64 y1, .int .u64 y2, .int .u64 y3, .int .i64 y4, .int .u64 y5, .bool y6, .int .u64 y7, .int .i64 y8, .int .u64 y9, .int .u64 y10, .int .u64 y11, .int .u64 y12] _ (fun _ h => Blk.range h.1) Try.underlying28 rfl st_info) (by assumption) ?_
      try simp only [Act.put, List.setIfInBounds_toArray, List.set_cons_zero, List.set_cons_succ]
      refine wpAnyH_take (i := 8) (oi := ⟨some 113, _, _, _, _, some (5, true)⟩) (v := .agg #[.int .u64 z0, .int .u64 z1, .int .u64 z2, .int .u64 z3, .int .i64 z4, .int .u64 z5, .bool z6, .int .u64 z7, .int .i64 z8, .int .u64 z9, .int .u64 z10, .int .u64 z11, .int .u64 z12]) rfl (by kernel_rfl) (by kernel_rfl) (by kernel_rfl) (fun _ _ _ h => h) (yieldsIf_load_mid (by rfl) 31 _ rfl (w.heap.size + 1) 0 rfl [.int .u64 z0, .int .u64 z1, .int .u64 z2, .int .u64 z3, .int .i64 z4, .int .u64 z5, .bool z6, .int .u64 z7, .int .i64 z8, .int .u64 z9, .int .u64 z10, .int .u64 z11, .int .u64 z12] _ (fun _ h => Blk.range h.2.1) Try.underlying31 rfl sx_info) (by assumption) ?_
      try simp only [Act.put, List.setIfInBounds_toArray, List.set_cons_zero, List.set_cons_succ]
      refine wpAnyH_ready (rs := [7]) (by kernel_rfl) (by simp) ?_
      refine AllReadyH.cons (o := ⟨some 112, _, _, _, _, some (5, true)⟩) rfl (fun K hK => ?_) AllReadyH.nil
      go_simp
      go_wp2_with (go_at_call 7; refine (TO.out _).mono ?_; rintro e v ⟨rfl, hb⟩)
      refine hK.out _ _ ?_ (fun hH2 => ?_)
      · exact ⟨Blk.below hH.1 hb, Blk.below hH.2.1 hb, there_below hH.2.2.1.out hb (Nat.lt_trans (by omega) hH.2.2.2.2.2), there_below hH.2.2.2.1.out hb hH.2.2.2.2.2, below_then hH.2.2.2.2.1 hb, Nat.lt_of_lt_of_le hH.2.2.2.2.2 hb.size⟩
      clear hK K hb hH
      try simp only [Act.put, List.setIfInBounds_toArray, List.set_cons_zero, List.set_cons_succ]
      refine wpAnyH_take (i := 9) (oi := ⟨some 114, _, _, _, _, some (5, true)⟩) (v := .bool D) rfl (by kernel_rfl) (by kernel_rfl) (by kernel_rfl) (fun _ _ _ h => h) (Or.inl ⟨by rfl, fun w hSw => by go_simp; (try simp [EQ w])⟩) (by assumption) ?_
      try simp only [Act.put, List.setIfInBounds_toArray, List.set_cons_zero, List.set_cons_succ]
      refine wpAnyH_take (i := 10) (oi := ⟨some 115, _, _, _, _, none⟩) (v := ?_) rfl (by kernel_rfl) (by kernel_rfl) (by kernel_rfl) (fun _ _ _ h => h) (Or.inl ⟨by rfl, ?_⟩) (by assumption) ?_
      rotate_left
      · intro w hSw; (try dsimp only at hSw); go_simp; (try with_reducible rfl)
      try simp only [Act.put, List.setIfInBounds_toArray, List.set_cons_zero, List.set_cons_succ]
      obtain ⟨j1, j2, j3, j4, j5, j6⟩ := hH2
      skip
      have i0 := (show (fun c => Blk c (w.heap.size) [.int .u64 y0, .int .u64 y1, .int .u64 y2, .int .u64 y3, .int .i64 y4, .int .u64 y5, .bool y6, .int .u64 y7, .int .i64 y8, .int .u64 y9, .int .u64 y10, .int .u64 y11, .int .u64 y12] 28 ∧ Blk c (w.heap.size + 1) [.int .u64 z0, .int .u64 z1, .int .u64 z2, .int .u64 z3, .int .i64 z4, .int .u64 z5, .bool z6, .int .u64 z7, .int .i64 z8, .int .u64 z9, .int .u64 z10, .int .u64 z11, .int .u64 z12] 31 ∧ Hid (c.there (w.heap.size + 1 + 1 + 1) 0 13) ∧ Hid (c.there (w.heap.size + 1 + 1 + 1 + 1) 0 13) ∧ Below w.heap.size w c ∧ w.heap.size + 1 + 1 + 1 + 1 < c.heap.size) v from ⟨j1, j2, j3, j4, j5, j6⟩)
      refine wpAnyH_ready (rs := [11]) (by kernel_rfl) (by simp) ?_
      refine AllReadyH.cons (o := ⟨none, .store 28 (.tmp 6) (.tmp 105), _, _, _, none⟩) rfl (fun K hK => ?_) AllReadyH.nil
      refine wanted_mp rfl ?_
      refine wp_store_mid _ _ _ rfl (w.heap.size + 1 + 1 + 1) 0 #[.int .u64 y0, .int .u64 y1, .int .u64 y2, .int .u64 y3, .int .i64 y4, .int .u64 y5, .bool y6, .int .u64 y7, .int .i64 y8, .int .u64 y9, .int .u64 y10, .int .u64 y11, .int .u64 y12] rfl rfl j3.out st_info (by simp [Value.oneCell']) ?_
      refine hK.out _ _ ?_ (fun i1 => ?_)
      · exact ⟨Blk.scs j1 (by omega) _ 0, Blk.scs j2 (by omega) _ 0, World.there_setCells j3.out _ _ _, World.there_setCells j4.out _ _ _, below_scs j5 (by omega) _ 0, by rw [size_scs]; exact j6⟩
      clear hK K i0
      try simp only [Act.put, List.setIfInBounds_toArray, List.set_cons_zero, List.set_cons_succ]
      simp only [List.toList_toArray] at i1 ⊢
      have R11 : Hid ((v.setCells (w.heap.size + 1 + 1 + 1) 0 [.int .u64 y0, .int .u64 y1, .int .u64 y2, .int .u64 y3, .int .i64 y4, .int .u64 y5, .bool y6, .int .u64 y7, .int .i64 y8, .int .u64 y9, .int .u64 y10, .int .u64 y11, .int .u64 y12]).rangeAt (w.heap.size + 1 + 1 + 1) 0 [.int .u64 y0, .int .u64 y1, .int .u64 y2, .int .u64 y3, .int .i64 y4, .int .u64 y5, .bool y6, .int .u64 y7, .int .i64 y8, .int .u64 y9, .int .u64 y10, .int .u64 y11, .int .u64 y12]) := World.rangeAt_setCells_same _ _ 0 _ j3.out
      generalize v.setCells (w.heap.size + 1 + 1 + 1) 0 [.int .u64 y0, .int .u64 y1, .int .u64 y2, .int .u64 y3, .int .i64 y4, .int .u64 y5, .bool y6, .int .u64 y7, .int .i64 y8, .int .u64 y9, .int .u64 y10, .int .u64 y11, .int .u64 y12] = X1 at i1 R11 ⊢
      clear j1 j2 j3 j4 j5 j6
      obtain ⟨j1, j2, j3, j4, j5, j6⟩ := i1
      skip
      have i2 := (show (fun c => Blk c (w.heap.size) [.int .u64 y0, .int .u64 y1, .int .u64 y2, .int .u64 y3, .int .i64 y4, .int .u64 y5, .bool y6, .int .u64 y7, .int .i64 y8, .int .u64 y9, .int .u64 y10, .int .u64 y11, .int .u64 y12] 28 ∧ Blk c (w.heap.size + 1) [.int .u64 z0, .int .u64 z1, .int .u64 z2, .int .u64 z3, .int .i64 z4, .int .u64 z5, .bool z6, .int .u64 z7, .int .i64 z8, .int .u64 z9, .int .u64 z10, .int .u64 z11, .int .u64 z12] 31 ∧ Hid (c.there (w.heap.size + 1 + 1 + 1) 0 13) ∧ Hid (c.there (w.heap.size + 1 + 1 + 1 + 1) 0 13) ∧ Below w.heap.size w c ∧ w.heap.size + 1 + 1 + 1 + 1 < c.heap.size) X1 from ⟨j1, j2, j3, j4, j5, j6⟩)
      refine wpAnyH_ready (rs := [12]) (by kernel_rfl) (by simp) ?_
      refine AllReadyH.cons (o := ⟨none, .store 31 (.tmp 7) (.tmp 106), _, _, _, none⟩) rfl (fun K hK => ?_) AllReadyH.nil
      refine wanted_mp rfl ?_
      refine wp_store_mid _ _ _ rfl (w.heap.size + 1 + 1 + 1 + 1) 0 #[.int .u64 z0, .int .u64 z1, .int .u64 z2, .int .u64 z3, .int .i64 z4, .int .u64 z5, .bool z6, .int .u64 z7, .int .i64 z8, .int .u64 z9, .int .u64 z10, .int .u64 z11, .int .u64 z12] rfl rfl j4.out sx_info (by simp [Value.oneCell']) ?_
      refine hK.out _ _ ?_ (fun i3 => ?_)
      · exact ⟨Blk.scs j1 (by omega) _ 0, Blk.scs j2 (by omega) _ 0, World.there_setCells j3.out _ _ _, World.there_setCells j4.out _ _ _, below_scs j5 (by omega) _ 0, by rw [size_scs]; exact j6⟩
      clear hK K i2
      try simp only [Act.put, List.setIfInBounds_toArray, List.set_cons_zero, List.set_cons_succ]
      simp only [List.toList_toArray] at i3 ⊢
      have R12 : Hid ((X1.setCells (w.heap.size + 1 + 1 + 1 + 1) 0 [.int .u64 z0, .int .u64 z1, .int .u64 z2, .int .u64 z3, .int .i64 z4, .int .u64 z5, .bool z6, .int .u64 z7, .int .i64 z8, .int .u64 z9, .int .u64 z10, .int .u64 z11, .int .u64 z12]).rangeAt (w.heap.size + 1 + 1 + 1 + 1) 0 [.int .u64 z0, .int .u64 z1, .int .u64 z2, .int .u64 z3, .int .i64 z4, .int .u64 z5, .bool z6, .int .u64 z7, .int .i64 z8, .int .u64 z9, .int .u64 z10, .int .u64 z11, .int .u64 z12]) := World.rangeAt_setCells_same _ _ 0 _ j4.out
      have R13 : Hid ((X1.setCells (w.heap.size + 1 + 1 + 1 + 1) 0 [.int .u64 z0, .int .u64 z1, .int .u64 z2, .int .u64 z3, .int .i64 z4, .int .u64 z5, .bool z6, .int .u64 z7, .int .i64 z8, .int .u64 z9, .int .u64 z10, .int .u64 z11, .int .u64 z12]).rangeAt (w.heap.size + 1 + 1 + 1) 0 [.int .u64 y0, .int .u64 y1, .int .u64 y2, .int .u64 y3, .int .i64 y4, .int .u64 y5, .bool y6, .int .u64 y7, .int .i64 y8, .int .u64 y9, .int .u64 y10, .int .u64 y11, .int .u64 y12]) := World.rangeAt_setCells_apart R11.out _ 0 _ (Or.inl (by omega))
      generalize X1.setCells (w.heap.size + 1 + 1 + 1 + 1) 0 [.int .u64 z0, .int .u64 z1, .int .u64 z2, .int .u64 z3, .int .i64 z4, .int .u64 z5, .bool z6, .int .u64 z7, .int .i64 z8, .int .u64 z9, .int .u64 z10, .int .u64 z11, .int .u64 z12] = X2 at i3 R12 R13 ⊢
      clear j1 j2 j3 j4 j5 j6 R11
      obtain ⟨j1, j2, j3, j4, j5, j6⟩ := i3
      have i3 := (show (fun c => Blk c (w.heap.size) [.int .u64 y0, .int .u64 y1, .int .u64 y2, .int .u64 y3, .int .i64 y4, .int .u64 y5, .bool y6, .int .u64 y7, .int .i64 y8, .int .u64 y9, .int .u64 y10, .int .u64 y11, .int .u64 y12] 28 ∧ Blk c (w.heap.size + 1) [.int .u64 z0, .int .u64 z1, .int .u64 z2, .int .u64 z3, .int .i64 z4, .int .u64 z5, .bool z6, .int .u64 z7, .int .i64 z8, .int .u64 z9, .int .u64 z10, .int .u64 z11, .int .u64 z12] 31 ∧ Hid (c.there (w.heap.size + 1 + 1 + 1) 0 13) ∧ Hid (c.there (w.heap.size + 1 + 1 + 1 + 1) 0 13) ∧ Below w.heap.size w c ∧ w.heap.size + 1 + 1 + 1 + 1 < c.heap.size) X2 from ⟨j1, j2, j3, j4, j5, j6⟩)
      refine wpAnyH_take (i := 13) (oi := ⟨some 8, _, _, _, _, none⟩) (v := ?_) rfl (by kernel_rfl) (by kernel_rfl) (by kernel_rfl) (fun _ _ _ h => h) (Or.inl ⟨by rfl, ?_⟩) (by assumption) ?_
      rotate_left
      · intro w hSw; (try dsimp only at hSw); go_simp; (try with_reducible rfl)
      try simp only [Act.put, List.setIfInBounds_toArray, List.set_cons_zero, List.set_cons_succ]
      have BX : Hid (Below w.heap.size w X2) := j5
      clear j1 j2 j3 j4 j5 j6 i3
      refine wpAnyH_done (by kernel_rfl) ?_ _
      refine NoPanic.normal ?_
      go_wp2_with fail
      refine bodyPost_ret (results_three Try.results9 _ _ _ _ _ _ _ _ rfl rfl rfl (run_loadVar_mid _ _ _ _ _ _ R13.out Try.underlying28 rfl st_info) (run_loadVar_mid _ _ _ _ _ _ R12.out Try.underlying31 rfl sx_info)) rfl ?_
      refine ⟨?_, BX.out⟩
      rw [HR.out, ← hq.out.1, ← hq.out.2.1, ← hq.out.2.2.1, ← hq.out.2.2.2]
      rw [HD.out]; simp

    · have ee : (E == F) = false := by simpa using ef
      go_wp2_with fail
      refine wp_region_noPanic ?_
      refine wp_region_held_drew (S := fun c => Blk c (w.heap.size) [.int .u64 y0, .int .u64 y1, .int .u64 y2, .int .u64 y3, .int .i64 y4, .int .u64 y5, .bool y6, .int .u64 y7, .int .i64 y8, .int .u64 y9, .int .u64 y10, .int .u64 y11, .int .u64 y12] 28 ∧ Blk c (w.heap.size + 1) [.int .u64 z0, .int .u64 z1, .int .u64 z2, .int .u64 z3, .int .i64 z4, .int .u64 z5, .bool z6, .int .u64 z7, .int .i64 z8, .int .u64 z9, .int .u64 z10, .int .u64 z11, .int .u64 z12] 31 ∧ Hid (c.there (w.heap.size + 1 + 1 + 1) 0 13) ∧ Hid (c.there (w.heap.size + 1 + 1 + 1 + 1) 0 13) ∧ Below w.heap.size w c ∧ w.heap.size + 1 + 1 + 1 + 1 < c.heap.size) (by kernel_rfl) ?_ (fun hH => ?_)
      · exact ⟨Zs.out, Zx.out, Zg.out.there, Zh.out.there, below_drew BW.out, blk_lt Zh.out⟩
      clear Zs Zx Zg Zh BW
      refine wpAnyH_take (i := 0) (oi := ⟨some 105, _, _, _, _, none⟩) (v := .agg #[.int .u64 y0, .int .u64 y1, .int .u64 y2, .int .u64 y3, .int .i64 y4, .int .u64 y5, .bool y6, .int .u64 y7, .int .i64 y8, .int .u64 y9, .int .u64 y10, .int .u64 y11, .int .u64 y12]) rfl (by kernel_rfl) (by kernel_rfl) (by kernel_rfl) (fun _ _ _ h => h) (yieldsIf_load_mid (by rfl) 28 _ rfl (w.heap.size) 0 rfl [.int .u64 y0, .int .u64 y1, .int .u64 y2, .int .u64 y3, .int .i64 y4, .int .u64 y5, .bool y6, .int .u64 y7, .int .i64 y8, .int .u64 y9, .int .u64 y10, .int .u64 y11, .int .u64 y12] _ (fun _ h => Blk.range h.1) Try.underlying28 rfl st_info) (by assumption) ?_
      try simp only [Act.put, List.setIfInBounds_toArray, List.set_cons_zero, List.set_cons_succ]
      refine wpAnyH_take (i := 1) (oi := ⟨some 106, _, _, _, _, none⟩) (v := .agg #[.int .u64 z0, .int .u64 z1, .int .u64 z2, .int .u64 z3, .int .i64 z4, .int .u64 z5, .bool z6, .int .u64 z7, .int .i64 z8, .int .u64 z9, .int .u64 z10, .int .u64 z11, .int .u64 z12]) rfl (by kernel_rfl) (by kernel_rfl) (by kernel_rfl) (fun _ _ _ h => h) (yieldsIf_load_mid (by rfl) 31 _ rfl (w.heap.size + 1) 0 rfl [.int .u64 z0, .int .u64 z1, .int .u64 z2, .int .u64 z3, .int .i64 z4, .int .u64 z5, .bool z6, .int .u64 z7, .int .i64 z8, .int .u64 z9, .int .u64 z10, .int .u64 z11, .int .u64 z12] _ (fun _ h => Blk.range h.2.1) Try.underlying31 rfl sx_info) (by assumption) ?_
      try simp only [Act.put, List.setIfInBounds_toArray, List.set_cons_zero, List.set_cons_succ]
      refine wpAnyH_take (i := 2) (oi := ⟨some 107, _, _, _, _, none⟩) (v := ?_) rfl (by kernel_rfl) (by kernel_rfl) (by kernel_rfl) (fun _ _ _ h => h) (Or.inl ⟨by rfl, ?_⟩) (by assumption) ?_
      rotate_left
      · intro w hSw; (try dsimp only at hSw); go_simp; (try with_reducible rfl)
      try simp only [Act.put, List.setIfInBounds_toArray, List.set_cons_zero, List.set_cons_succ]
      refine wpAnyH_take (i := 3) (oi := ⟨some 108, _, _, _, _, none⟩) (v := ?_) rfl (by kernel_rfl) (by kernel_rfl) (by kernel_rfl) (fun _ _ _ h => h) (Or.inl ⟨by rfl, ?_⟩) (by assumption) ?_
      rotate_left
      · intro w hSw; (try dsimp only at hSw); go_simp; (try with_reducible rfl)
      try simp only [Act.put, List.setIfInBounds_toArray, List.set_cons_zero, List.set_cons_succ]
      refine wpAnyH_take (i := 4) (oi := ⟨some 109, _, _, _, _, none⟩) (v := .bool false) rfl (by kernel_rfl) (by kernel_rfl) (by kernel_rfl) (fun _ _ _ h => h) (Or.inl ⟨by rfl, ?_⟩) (by assumption) ?_
      · intro w hSw; go_simp; (try simp)
      try simp only [Act.put, List.setIfInBounds_toArray, List.set_cons_zero, List.set_cons_succ]
      refine wpAnyH_take (i := 5) (oi := ⟨some 110, _, _, _, _, none⟩) (v := ?_) rfl (by kernel_rfl) (by kernel_rfl) (by kernel_rfl) (fun _ _ _ h => h) (Or.inl ⟨by rfl, ?_⟩) (by assumption) ?_
      rotate_left
      · intro w hSw; (try dsimp only at hSw); go_simp; (try with_reducible rfl)
      try simp only [Act.put, List.setIfInBounds_toArray, List.set_cons_zero, List.set_cons_succ]
      refine wpAnyH_take (i := 6) (oi := ⟨some 111, _, _, _, _, some (5, true)⟩) (v := undef) rfl (by kernel_rfl) (by kernel_rfl) (by kernel_rfl) (fun _ _ _ h => h) (Or.inr ⟨by rfl, rfl⟩) (by assumption) ?_
      try simp only [Act.put, List.setIfInBounds_toArray, List.set_cons_zero, List.set_cons_succ]
      refine wpAnyH_take (i := 7) (oi := ⟨some 112, _, _, _, _, some (5, true)⟩) (v := undef) rfl (by kernel_rfl) (by kernel_rfl) (by kernel_rfl) (fun _ _ _ h => h) (Or.inr ⟨by rfl, rfl⟩) (by assumption) ?_
      try simp only [Act.put, List.setIfInBounds_toArray, List.set_cons_zero, List.set_cons_succ]
      refine wpAnyH_take (i := 8) (oi := ⟨some 113, _, _, _, _, some (5, true)⟩) (v := undef) rfl (by kernel_rfl) (by kernel_rfl) (by kernel_rfl) (fun _ _ _ h => h) (Or.inr ⟨by rfl, rfl⟩) (by assumption) ?_
      try simp only [Act.put, List.setIfInBounds_toArray, List.set_cons_zero, List.set_cons_succ]
      refine wpAnyH_take (i := 9) (oi := ⟨some 114, _, _, _, _, some (5, true)⟩) (v := undef) rfl (by kernel_rfl) (by kernel_rfl) (by kernel_rfl) (fun _ _ _ h => h) (Or.inr ⟨by rfl, rfl⟩) (by assumption) ?_
      try simp only [Act.put, List.setIfInBounds_toArray, List.set_cons_zero, List.set_cons_succ]
      refine wpAnyH_take (i := 10) (oi := ⟨some 115, _, _, _, _, none⟩) (v := ?_) rfl (by kernel_rfl) (by kernel_rfl) (by kernel_rfl) (fun _ _ _ h => h) (Or.inl ⟨by rfl, ?_⟩) (by assumption) ?_
      rotate_left
      · intro w hSw; (try dsimp only at hSw); go_simp; (try with_reducible rfl)
      try simp only [Act.put, List.setIfInBounds_toArray, List.set_cons_zero, List.set_cons_succ]
      obtain ⟨j1, j2, j3, j4, j5, j6⟩ := hH
      skip
      generalize hu0 : World.drew _ = u0 at j1 j2 j3 j4 j5 j6 ⊢
      have i0 := (show (fun c => Blk c (w.heap.size) [.int .u64 y0, .int .u64 y1, .int .u64 y2, .int .u64 y3, .int .i64 y4, .int .u64 y5, .bool y6, .int .u64 y7, .int .i64 y8, .int .u64 y9, .int .u64 y10, .int .u64 y11, .int .u64 y12] 28 ∧ Blk c (w.heap.size + 1) [.int .u64 z0, .int .u64 z1, .int .u64 z2, .int .u64 z3, .int .i64 z4, .int .u64 z5, .bool z6, .int .u64 z7, .int .i64 z8, .int .u64 z9, .int .u64 z10, .int .u64 z11, .int .u64 z12] 31 ∧ Hid (c.there (w.heap.size + 1 + 1 + 1) 0 13) ∧ Hid (c.there (w.heap.size + 1 + 1 + 1 + 1) 0 13) ∧ Below w.heap.size w c ∧ w.heap.size + 1 + 1 + 1 + 1 < c.heap.size) u0 from ⟨j1, j2, j3, j4, j5, j6⟩)
      refine wpAnyH_ready (rs := [11]) (by kernel_rfl) (by simp) ?_
      refine AllReadyH.cons (o := ⟨none, .store 28 (.tmp 6) (.tmp 105), _, _, _, none⟩) rfl (fun K hK => ?_) AllReadyH.nil
      refine wanted_mp rfl ?_
      refine wp_store_mid _ _ _ rfl (w.heap.size + 1 + 1 + 1) 0 #[.int .u64 y0, .int .u64 y1, .int .u64 y2, .int .u64 y3, .int .i64 y4, .int .u64 y5, .bool y6, .int .u64 y7, .int .i64 y8, .int .u64 y9, .int .u64 y10, .int .u64 y11, .int .u64 y12] rfl rfl j3.out st_info (by simp [Value.oneCell']) ?_
      refine hK.out _ _ ?_ (fun i1 => ?_)
      · exact ⟨Blk.scs j1 (by omega) _ 0, Blk.scs j2 (by omega) _ 0, World.there_setCells j3.out _ _ _, World.there_setCells j4.out _ _ _, below_scs j5 (by omega) _ 0, by rw [size_scs]; exact j6⟩
      clear hK K i0
      try simp only [Act.put, List.setIfInBounds_toArray, List.set_cons_zero, List.set_cons_succ]
      simp only [List.toList_toArray] at i1 ⊢
      have R11 : Hid ((u0.setCells (w.heap.size + 1 + 1 + 1) 0 [.int .u64 y0, .int .u64 y1, .int .u64 y2, .int .u64 y3, .int .i64 y4, .int .u64 y5, .bool y6, .int .u64 y7, .int .i64 y8, .int .u64 y9, .int .u64 y10, .int .u64 y11, .int .u64 y12]).rangeAt (w.heap.size + 1 + 1 + 1) 0 [.int .u64 y0, .int .u64 y1, .int .u64 y2, .int .u64 y3, .int .i64 y4, .int .u64 y5, .bool y6, .int .u64 y7, .int .i64 y8, .int .u64 y9, .int .u64 y10, .int .u64 y11, .int .u64 y12]) := World.rangeAt_setCells_same _ _ 0 _ j3.out
      generalize u0.setCells (w.heap.size + 1 + 1 + 1) 0 [.int .u64 y0, .int .u64 y1, .int .u64 y2, .int .u64 y3, .int .i64 y4, .int .u64 y5, .bool y6, .int .u64 y7, .int .i64 y8, .int .u64 y9, .int .u64 y10, .int .u64 y11, .int .u64 y12] = X1 at i1 R11 ⊢
      clear j1 j2 j3 j4 j5 j6
      obtain ⟨j1, j2, j3, j4, j5, j6⟩ := i1
      skip
      have i2 := (show (fun c => Blk c (w.heap.size) [.int .u64 y0, .int .u64 y1, .int .u64 y2, .int .u64 y3, .int .i64 y4, .int .u64 y5, .bool y6, .int .u64 y7, .int .i64 y8, .int .u64 y9, .int .u64 y10, .int .u64 y11, .int .u64 y12] 28 ∧ Blk c (w.heap.size + 1) [.int .u64 z0, .int .u64 z1, .int .u64 z2, .int .u64 z3, .int .i64 z4, .int .u64 z5, .bool z6, .int .u64 z7, .int .i64 z8, .int .u64 z9, .int .u64 z10, .int .u64 z11, .int .u64 z12] 31 ∧ Hid (c.there (w.heap.size + 1 + 1 + 1) 0 13) ∧ Hid (c.there (w.heap.size + 1 + 1 + 1 + 1) 0 13) ∧ Below w.heap.size w c ∧ w.heap.size + 1 + 1 + 1 + 1 < c.heap.size) X1 from ⟨j1, j2, j3, j4, j5, j6⟩)
      refine wpAnyH_ready (rs := [12]) (by kernel_rfl) (by simp) ?_
      refine AllReadyH.cons (o := ⟨none, .store 31 (.tmp 7) (.tmp 106), _, _, _, none⟩) rfl (fun K hK => ?_) AllReadyH.nil
      refine wanted_mp rfl ?_
      refine wp_store_mid _ _ _ rfl (w.heap.size + 1 + 1 + 1 + 1) 0 #[.int .u64 z0, .int .u64 z1, .int .u64 z2, .int .u64 z3, .int .i64 z4, .int .u64 z5, .bool z6, .int .u64 z7, .int .i64 z8, .int .u64 z9, .int .u64 z10, .int .u64 z11, .int .u64 z12] rfl rfl j4.out sx_info (by simp [Value.oneCell']) ?_
      refine hK.out _ _ ?_ (fun i3 => ?_)
      · exact ⟨Blk.scs j1 (by omega) _ 0, Blk.scs j2 (by omega) _ 0, World.there_setCells j3.out _ _ _, World.there_setCells j4.out _ _ _, below_scs j5 (by omega) _ 0, by rw [size_scs]; exact j6⟩
      clear hK K i2
      try simp only [Act.put, List.setIfInBounds_toArray, List.set_cons_zero, List.set_cons_succ]
      simp only [List.toList_toArray] at i3 ⊢
      have R12 : Hid ((X1.setCells (w.heap.size + 1 + 1 + 1 + 1) 0 [.int .u64 z0, .int .u64 z1, .int .u64 z2, .int .u64 z3, .int .i64 z4, .int .u64 z5, .bool z6, .int .u64 z7, .int .i64 z8, .int .u64 z9, .int .u64 z10, .int .u64 z11, .int .u64 z12]).rangeAt (w.heap.size + 1 + 1 + 1 + 1) 0 [.int .u64 z0, .int .u64 z1, .int .u64 z2, .int .u64 z3, .int .i64 z4, .int .u64 z5, .bool z6, .int .u64 z7, .int .i64 z8, .int .u64 z9, .int .u64 z10, .int .u64 z11, .int .u64 z12]) := World.rangeAt_setCells_same _ _ 0 _ j4.out
      have R13 : Hid ((X1.setCells (w.heap.size + 1 + 1 + 1 + 1) 0 [.int .u64 z0, .int .u64 z1, .int .u64 z2, .int .u64 z3, .int .i64 z4, .int .u64 z5, .bool z6, .int .u64 z7, .int .i64 z8, .int .u64 z9, .int .u64 z10, .int .u64 z11, .int .u64 z12]).rangeAt (w.heap.size + 1 + 1 + 1) 0 [.int .u64 y0, .int .u64 y1, .int .u64 y2, .int .u64 y3, .int .i64 y4, .int .u64 y5, .bool y6, .int .u64 y7, .int .i64 y8, .int .u64 y9, .int .u64 y10, .int .u64 y11, .int .u64 y12]) := World.rangeAt_setCells_apart R11.out _ 0 _ (Or.inl (by omega))
      generalize X1.setCells (w.heap.size + 1 + 1 + 1 + 1) 0 [.int .u64 z0, .int .u64 z1, .int .u64 z2, .int .u64 z3, .int .i64 z4, .int .u64 z5, .bool z6, .int .u64 z7, .int .i64 z8, .int .u64 z9, .int .u64 z10, .int .u64 z11, .int .u64 z12] = X2 at i3 R12 R13 ⊢
      clear j1 j2 j3 j4 j5 j6 R11
      obtain ⟨j1, j2, j3, j4, j5, j6⟩ := i3
      have i3 := (show (fun c => Blk c (w.heap.size) [.int .u64 y0, .int .u64 y1, .int .u64 y2, .int .u64 y3, .int .i64 y4, .int .u64 y5, .bool y6, .int .u64 y7, .int .i64 y8, .int .u64 y9, .int .u64 y10, .int .u64 y11, .int .u64 y12] 28 ∧ Blk c (w.heap.size + 1) [.int .u64 z0, .int .u64 z1, .int .u64 z2, .int .u64 z3, .int .i64 z4, .int .u64 z5, .bool z6, .int .u64 z7, .int .i64 z8, .int .u64 z9, .int .u64 z10, .int .u64 z11, .int .u64 z12] 31 ∧ Hid (c.there (w.heap.size + 1 + 1 + 1) 0 13) ∧ Hid (c.there (w.heap.size + 1 + 1 + 1 + 1) 0 13) ∧ Below w.heap.size w c ∧ w.heap.size + 1 + 1 + 1 + 1 < c.heap.size) X2 from ⟨j1, j2, j3, j4, j5, j6⟩)
      refine wpAnyH_take (i := 13) (oi := ⟨some 8, _, _, _, _, none⟩) (v := ?_) rfl (by kernel_rfl) (by kernel_rfl) (by kernel_rfl) (fun _ _ _ h => h) (Or.inl ⟨by rfl, ?_⟩) (by assumption) ?_
      rotate_left
      · intro w hSw; (try dsimp only at hSw); go_simp; (try with_reducible rfl)
      try simp only [Act.put, List.setIfInBounds_toArray, List.set_cons_zero, List.set_cons_succ]
      have BX : Hid (Below w.heap.size w X2) := j5
      clear j1 j2 j3 j4 j5 j6 i3
      refine wpAnyH_done (by kernel_rfl) ?_ _
      refine NoPanic.normal ?_
      go_wp2_with fail
      refine bodyPost_ret (results_three Try.results9 _ _ _ _ _ _ _ _ rfl rfl rfl (run_loadVar_mid _ _ _ _ _ _ R13.out Try.underlying28 rfl st_info) (run_loadVar_mid _ _ _ _ _ _ R12.out Try.underlying31 rfl sx_info)) rfl ?_
      refine ⟨?_, BX.out⟩
      rw [HR.out, ← hq.out.1, ← hq.out.2.1, ← hq.out.2.2.1, ← hq.out.2.2.2]
      simp [ef]

end Go.Proofs.Ytcieglidghnidaa
