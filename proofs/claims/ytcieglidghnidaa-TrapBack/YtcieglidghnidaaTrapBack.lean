/- TrapBack: of any state that isn't at its entry: a fault, whatever the process does with its registers then, and the return leave the state as it was, but for what reckoning told. No condition. -/
import Derived.Test.YtcieglidghnidaaRows
import Derived.ProofKit
import Derived.OpenShut
import Derived.Carry
import Derived.Test.YtcieglidghnidaaAD
namespace Go.Proofs.Ytcieglidghnidaa.trapBack
open Go.ChangeShapes Go.WideShapes Go.ChangeAt Go.RowKit Go.Maps
set_option linter.unusedSimpArgs false
set_option linter.unusedVariables false
theorem ac_info : (Try.prog.info? 37).map (·.size) = some 8 := by kernel_rfl
theorem range_below {w W : World} {b o : Nat} {C : List Value} (h : w.rangeAt b o C) (hb : Below w.heap.size w W) (l : b < w.heap.size) : W.rangeAt b o C := fun j v hv => (hb.cell (p := ⟨b, o + j, none⟩) l).trans (h j v hv)
theorem zero_wf : (St.mk 0 0 0 0 0 0 false 0 0 0 0 0 0).wf := ⟨zero_u, zero_u, zero_u, zero_u, by decide, zero_u, zero_u, zero_u, zero_u⟩
theorem put_same (s : St) (k : Nat) (x : Int) : (s.put k x).en = s.en ∧ (s.put k x).inn = s.inn ∧ (s.put k x).fa = s.fa ∧ (s.put k x).fc = s.fc ∧ (s.put k x).s0 = s.s0 ∧ (s.put k x).s1 = s.s1 ∧ (s.put k x).s2 = s.s2 ∧ (s.put k x).s3 = s.s3 := by
  unfold St.put
  split
  · exact ⟨rfl, rfl, rfl, rfl, rfl, rfl, rfl, rfl⟩
  split
  · exact ⟨rfl, rfl, rfl, rfl, rfl, rfl, rfl, rfl⟩
  split
  · exact ⟨rfl, rfl, rfl, rfl, rfl, rfl, rfl, rfl⟩
  · exact ⟨rfl, rfl, rfl, rfl, rfl, rfl, rfl, rfl⟩
theorem act_keeps (s : St) (A : Ac) (h : A.kind = 4 ∨ A.kind = 5) : (actS s A).en = s.en ∧ (actS s A).inn = s.inn ∧ (actS s A).fa = s.fa ∧ (actS s A).fc = s.fc ∧ (actS s A).s0 = s.s0 ∧ (actS s A).s1 = s.s1 ∧ (actS s A).s2 = s.s2 ∧ (actS s A).s3 = s.s3 := by
  have n1 : ¬ A.kind = 1 := by omega
  have n2 : ¬ A.kind = 2 := by omega
  have n3 : ¬ A.kind = 3 := by omega
  have r : ∀ s : St, s.en = s.en ∧ s.inn = s.inn ∧ s.fa = s.fa ∧ s.fc = s.fc ∧ s.s0 = s.s0 ∧ s.s1 = s.s1 ∧ s.s2 = s.s2 ∧ s.s3 = s.s3 := fun s => ⟨rfl, rfl, rfl, rfl, rfl, rfl, rfl, rfl⟩
  unfold actS
  rw [if_neg n1, if_neg n2, if_neg n3]
  by_cases h4 : A.kind = 4
  · rw [if_pos h4]
    unfold moveS
    split
    · exact put_same _ _ _
    · exact r s
  · rw [if_neg h4, if_pos (by omega)]
    unfold reckonS
    split
    · split
      · exact put_same _ _ _
      · exact r s
    · exact r s
theorem eqFn (a b a' b' : Int) (W : World) : (binOp .neq 26 (.agg #[.int .u64 a, .int .i64 b]) (.agg #[.int .u64 a', .int .i64 b'])).run Try.prog W = .ok (.bool (!(a == a' && b == b'))) W := by
  have := eqFt 9998 a b a' b' W
  simp only [binOp, Op.equal, Sem.run_bind]
  rw [show Op.maxDepth = 9998 + 2 from rfl, this]; rfl

set_option maxRecDepth 8000 in
set_option maxHeartbeats 16000000 in
theorem walk (s0 : St) (w0 : (Lit.int .u64 (s0.r0)).wf = true ∧ (Lit.int .u64 (s0.r1)).wf = true ∧ (Lit.int .u64 (s0.r2)).wf = true ∧ (Lit.int .u64 (s0.r3)).wf = true ∧ (Lit.int .i64 (s0.told)).wf = true ∧ (Lit.int .u64 (s0.en)).wf = true ∧ (Lit.int .u64 (s0.fa)).wf = true ∧ (Lit.int .i64 (s0.fc)).wf = true ∧ (Lit.int .u64 (s0.s0)).wf = true ∧ (Lit.int .u64 (s0.s1)).wf = true ∧ (Lit.int .u64 (s0.s2)).wf = true ∧ (Lit.int .u64 (s0.s3)).wf = true ∧ True) (f1 : Ft) (w1 : (Lit.int .u64 (f1.a)).wf = true ∧ (Lit.int .i64 (f1.c)).wf = true ∧ True) (p2 : Option Addr) (n2 c2 : Nat) (A2 : Nat → Ac) (m2 : n2 ≤ maxLen) (w : World) (H2 : IsActs w p2 n2 A2) :
    Calls Try.prog 4 #[s0.val, f1.val, .slice p2 n2 c2] w fun e w' => e = .returned (.bool true) ∧ Below w.heap.size w w' := by
  have AW : Hid (∀ W : World, Calls Try.prog 8 #[] W fun e w' => e = .returned (.bool true) ∧ Below W.heap.size W w') := fun W => awake_any W
  have hw0 : Hid s0.wf := ⟨wfu w0.1, wfu w0.2.1, wfu w0.2.2.1, wfu w0.2.2.2.1, wfi w0.2.2.2.2.1, wfu w0.2.2.2.2.2.2.2.2.1, wfu w0.2.2.2.2.2.2.2.2.2.1, wfu w0.2.2.2.2.2.2.2.2.2.2.1, wfu w0.2.2.2.2.2.2.2.2.2.2.2.1⟩
  have hf : Hid (U f1.a) := wfu w1.1
  clear w0 w1
  have HA : Hid (IsActs w p2 n2 A2) := H2
  clear H2
  have mm : (n2 : Int) ≤ 9223372036854775807 := by have : maxLen ≤ 9223372036854775807 := by decide +kernel
                                                   omega
  obtain ⟨r0, r1, r2, r3, t, en, i, a, c, s0, s1, s2, s3⟩ := s0
  obtain ⟨fa, fc⟩ := f1
  by_cases he : en = 0
  · subst he
    have C1 : Hid (∀ W : World, Calls Try.prog 10 #[.agg #[.int .u64 r0, .int .u64 r1, .int .u64 r2, .int .u64 r3, .int .i64 t, .int .u64 0, .bool i, .int .u64 a, .int .i64 c, .int .u64 s0, .int .u64 s1, .int .u64 s2, .int .u64 s3], .agg #[.int .u64 fa, .int .i64 fc]] W fun e w' => e = .returned (.tuple #[.agg #[.int .u64 r0, .int .u64 r1, .int .u64 r2, .int .u64 r3, .int .i64 t, .int .u64 0, .bool i, .int .u64 a, .int .i64 c, .int .u64 s0, .int .u64 s1, .int .u64 s2, .int .u64 s3], .int .i64 5]) ∧ Below W.heap.size W w') := fun W => raise_none r0 r1 r2 r3 t i a c s0 s1 s2 s3 fa fc W
    have E : ∀ W : World, (binOp .eql 28 (.agg #[.int .u64 r0, .int .u64 r1, .int .u64 r2, .int .u64 r3, .int .i64 t, .int .u64 0, .bool i, .int .u64 a, .int .i64 c, .int .u64 s0, .int .u64 s1, .int .u64 s2, .int .u64 s3]) (.agg #[.int .u64 r0, .int .u64 r1, .int .u64 r2, .int .u64 r3, .int .i64 t, .int .u64 0, .bool i, .int .u64 a, .int .i64 c, .int .u64 s0, .int .u64 s1, .int .u64 s2, .int .u64 s3])).run Try.prog W = .ok (.bool true) W := fun W => (eqS (St.mk r0 r1 r2 r3 t 0 i a c s0 s1 s2 s3) (St.mk r0 r1 r2 r3 t 0 i a c s0 s1 s2 s3) W).trans (by simp)
    go_enter Try.func4, Try.ntmps4
    go_wp2_with fail
    refine (C1.out _).mono ?_
    rintro e u1 ⟨rfl, hb⟩
    have B1 : Hid (Below w.heap.size w u1) := below_then (below_new (below_new (Below.refl _ _) _) _) hb
    have Zs1 : Hid (Blk u1 (w.heap.size) [.int .u64 r0, .int .u64 r1, .int .u64 r2, .int .u64 r3, .int .i64 t, .int .u64 0, .bool i, .int .u64 a, .int .i64 c, .int .u64 s0, .int .u64 s1, .int .u64 s2, .int .u64 s3] 28) := Blk.below (made2_0 _ _ _ _ _) hb
    clear hb C1
    go_wp2_with fail
    refine (AW.out _).mono ?_
    rintro e u2 ⟨rfl, hb⟩
    have B2 : Hid (Below w.heap.size w u2) := below_then (below_new (B1.out) _) hb
    have Zs2 : Hid (Blk u2 (w.heap.size) [.int .u64 r0, .int .u64 r1, .int .u64 r2, .int .u64 r3, .int .i64 t, .int .u64 0, .bool i, .int .u64 a, .int .i64 c, .int .u64 s0, .int .u64 s1, .int .u64 s2, .int .u64 s3] 28) := (Zs1.out.below (Go.Joins.below_alloc1 _ _)).below hb
    have Zt2 : Hid (Blk u2 (u1.heap.size) [.int .u64 r0, .int .u64 r1, .int .u64 r2, .int .u64 r3, .int .i64 t, .int .u64 0, .bool i, .int .u64 a, .int .i64 c, .int .u64 s0, .int .u64 s1, .int .u64 s2, .int .u64 s3] 28) := Blk.below (Blk.made _ _ _) hb
    clear hb B1 Zs1 AW
    have ls2 : w.heap.size < u2.heap.size := blk_lt Zs2.out
    have cs2_0 : u2.cell? ⟨w.heap.size, 0, none⟩ = some (.int .u64 r0) := Zs2.out.cell 0
    have cs2_1 : u2.cell? ⟨w.heap.size, 1, none⟩ = some (.int .u64 r1) := Zs2.out.cell 1
    have cs2_2 : u2.cell? ⟨w.heap.size, 2, none⟩ = some (.int .u64 r2) := Zs2.out.cell 2
    have cs2_3 : u2.cell? ⟨w.heap.size, 3, none⟩ = some (.int .u64 r3) := Zs2.out.cell 3
    have cs2_4 : u2.cell? ⟨w.heap.size, 4, none⟩ = some (.int .i64 t) := Zs2.out.cell 4
    have cs2_5 : u2.cell? ⟨w.heap.size, 5, none⟩ = some (.int .u64 0) := Zs2.out.cell 5
    have cs2_6 : u2.cell? ⟨w.heap.size, 6, none⟩ = some (.bool i) := Zs2.out.cell 6
    have cs2_7 : u2.cell? ⟨w.heap.size, 7, none⟩ = some (.int .u64 a) := Zs2.out.cell 7
    have cs2_8 : u2.cell? ⟨w.heap.size, 8, none⟩ = some (.int .i64 c) := Zs2.out.cell 8
    have cs2_9 : u2.cell? ⟨w.heap.size, 9, none⟩ = some (.int .u64 s0) := Zs2.out.cell 9
    have cs2_10 : u2.cell? ⟨w.heap.size, 10, none⟩ = some (.int .u64 s1) := Zs2.out.cell 10
    have cs2_11 : u2.cell? ⟨w.heap.size, 11, none⟩ = some (.int .u64 s2) := Zs2.out.cell 11
    have cs2_12 : u2.cell? ⟨w.heap.size, 12, none⟩ = some (.int .u64 s3) := Zs2.out.cell 12
    have lt2 : u1.heap.size < u2.heap.size := blk_lt Zt2.out
    have ct2_0 : u2.cell? ⟨u1.heap.size, 0, none⟩ = some (.int .u64 r0) := Zt2.out.cell 0
    have ct2_1 : u2.cell? ⟨u1.heap.size, 1, none⟩ = some (.int .u64 r1) := Zt2.out.cell 1
    have ct2_2 : u2.cell? ⟨u1.heap.size, 2, none⟩ = some (.int .u64 r2) := Zt2.out.cell 2
    have ct2_3 : u2.cell? ⟨u1.heap.size, 3, none⟩ = some (.int .u64 r3) := Zt2.out.cell 3
    have ct2_4 : u2.cell? ⟨u1.heap.size, 4, none⟩ = some (.int .i64 t) := Zt2.out.cell 4
    have ct2_5 : u2.cell? ⟨u1.heap.size, 5, none⟩ = some (.int .u64 0) := Zt2.out.cell 5
    have ct2_6 : u2.cell? ⟨u1.heap.size, 6, none⟩ = some (.bool i) := Zt2.out.cell 6
    have ct2_7 : u2.cell? ⟨u1.heap.size, 7, none⟩ = some (.int .u64 a) := Zt2.out.cell 7
    have ct2_8 : u2.cell? ⟨u1.heap.size, 8, none⟩ = some (.int .i64 c) := Zt2.out.cell 8
    have ct2_9 : u2.cell? ⟨u1.heap.size, 9, none⟩ = some (.int .u64 s0) := Zt2.out.cell 9
    have ct2_10 : u2.cell? ⟨u1.heap.size, 10, none⟩ = some (.int .u64 s1) := Zt2.out.cell 10
    have ct2_11 : u2.cell? ⟨u1.heap.size, 11, none⟩ = some (.int .u64 s2) := Zt2.out.cell 11
    have ct2_12 : u2.cell? ⟨u1.heap.size, 12, none⟩ = some (.int .u64 s3) := Zt2.out.cell 12
    go_wp2_with fail
    go_ret
    exact ⟨rfl, B2.out⟩
  cases i with
  | true =>
    have hen : (en == 0) = false := by simpa using he
    have C1 : Hid (∀ W : World, Calls Try.prog 10 #[.agg #[.int .u64 r0, .int .u64 r1, .int .u64 r2, .int .u64 r3, .int .i64 t, .int .u64 en, .bool true, .int .u64 a, .int .i64 c, .int .u64 s0, .int .u64 s1, .int .u64 s2, .int .u64 s3], .agg #[.int .u64 fa, .int .i64 fc]] W fun e w' => e = .returned (.tuple #[.agg #[.int .u64 r0, .int .u64 r1, .int .u64 r2, .int .u64 r3, .int .i64 t, .int .u64 en, .bool true, .int .u64 a, .int .i64 c, .int .u64 s0, .int .u64 s1, .int .u64 s2, .int .u64 s3], .int .i64 11]) ∧ Below W.heap.size W w') := fun W => raise_busy r0 r1 r2 r3 t en a c s0 s1 s2 s3 fa fc he W
    have E : ∀ W : World, (binOp .eql 28 (.agg #[.int .u64 r0, .int .u64 r1, .int .u64 r2, .int .u64 r3, .int .i64 t, .int .u64 en, .bool true, .int .u64 a, .int .i64 c, .int .u64 s0, .int .u64 s1, .int .u64 s2, .int .u64 s3]) (.agg #[.int .u64 r0, .int .u64 r1, .int .u64 r2, .int .u64 r3, .int .i64 t, .int .u64 en, .bool true, .int .u64 a, .int .i64 c, .int .u64 s0, .int .u64 s1, .int .u64 s2, .int .u64 s3])).run Try.prog W = .ok (.bool true) W := fun W => (eqS (St.mk r0 r1 r2 r3 t en true a c s0 s1 s2 s3) (St.mk r0 r1 r2 r3 t en true a c s0 s1 s2 s3) W).trans (by simp)
    go_enter Try.func4, Try.ntmps4
    go_wp2_with fail
    refine (C1.out _).mono ?_
    rintro e u1 ⟨rfl, hb⟩
    have B1 : Hid (Below w.heap.size w u1) := below_then (below_new (below_new (Below.refl _ _) _) _) hb
    have Zs1 : Hid (Blk u1 (w.heap.size) [.int .u64 r0, .int .u64 r1, .int .u64 r2, .int .u64 r3, .int .i64 t, .int .u64 en, .bool true, .int .u64 a, .int .i64 c, .int .u64 s0, .int .u64 s1, .int .u64 s2, .int .u64 s3] 28) := Blk.below (made2_0 _ _ _ _ _) hb
    clear hb C1
    go_wp2_with fail
    refine (AW.out _).mono ?_
    rintro e u2 ⟨rfl, hb⟩
    have B2 : Hid (Below w.heap.size w u2) := below_then (below_new (B1.out) _) hb
    have Zs2 : Hid (Blk u2 (w.heap.size) [.int .u64 r0, .int .u64 r1, .int .u64 r2, .int .u64 r3, .int .i64 t, .int .u64 en, .bool true, .int .u64 a, .int .i64 c, .int .u64 s0, .int .u64 s1, .int .u64 s2, .int .u64 s3] 28) := (Zs1.out.below (Go.Joins.below_alloc1 _ _)).below hb
    have Zt2 : Hid (Blk u2 (u1.heap.size) [.int .u64 r0, .int .u64 r1, .int .u64 r2, .int .u64 r3, .int .i64 t, .int .u64 en, .bool true, .int .u64 a, .int .i64 c, .int .u64 s0, .int .u64 s1, .int .u64 s2, .int .u64 s3] 28) := Blk.below (Blk.made _ _ _) hb
    clear hb B1 Zs1 AW
    have ls2 : w.heap.size < u2.heap.size := blk_lt Zs2.out
    have cs2_0 : u2.cell? ⟨w.heap.size, 0, none⟩ = some (.int .u64 r0) := Zs2.out.cell 0
    have cs2_1 : u2.cell? ⟨w.heap.size, 1, none⟩ = some (.int .u64 r1) := Zs2.out.cell 1
    have cs2_2 : u2.cell? ⟨w.heap.size, 2, none⟩ = some (.int .u64 r2) := Zs2.out.cell 2
    have cs2_3 : u2.cell? ⟨w.heap.size, 3, none⟩ = some (.int .u64 r3) := Zs2.out.cell 3
    have cs2_4 : u2.cell? ⟨w.heap.size, 4, none⟩ = some (.int .i64 t) := Zs2.out.cell 4
    have cs2_5 : u2.cell? ⟨w.heap.size, 5, none⟩ = some (.int .u64 en) := Zs2.out.cell 5
    have cs2_6 : u2.cell? ⟨w.heap.size, 6, none⟩ = some (.bool true) := Zs2.out.cell 6
    have cs2_7 : u2.cell? ⟨w.heap.size, 7, none⟩ = some (.int .u64 a) := Zs2.out.cell 7
    have cs2_8 : u2.cell? ⟨w.heap.size, 8, none⟩ = some (.int .i64 c) := Zs2.out.cell 8
    have cs2_9 : u2.cell? ⟨w.heap.size, 9, none⟩ = some (.int .u64 s0) := Zs2.out.cell 9
    have cs2_10 : u2.cell? ⟨w.heap.size, 10, none⟩ = some (.int .u64 s1) := Zs2.out.cell 10
    have cs2_11 : u2.cell? ⟨w.heap.size, 11, none⟩ = some (.int .u64 s2) := Zs2.out.cell 11
    have cs2_12 : u2.cell? ⟨w.heap.size, 12, none⟩ = some (.int .u64 s3) := Zs2.out.cell 12
    have lt2 : u1.heap.size < u2.heap.size := blk_lt Zt2.out
    have ct2_0 : u2.cell? ⟨u1.heap.size, 0, none⟩ = some (.int .u64 r0) := Zt2.out.cell 0
    have ct2_1 : u2.cell? ⟨u1.heap.size, 1, none⟩ = some (.int .u64 r1) := Zt2.out.cell 1
    have ct2_2 : u2.cell? ⟨u1.heap.size, 2, none⟩ = some (.int .u64 r2) := Zt2.out.cell 2
    have ct2_3 : u2.cell? ⟨u1.heap.size, 3, none⟩ = some (.int .u64 r3) := Zt2.out.cell 3
    have ct2_4 : u2.cell? ⟨u1.heap.size, 4, none⟩ = some (.int .i64 t) := Zt2.out.cell 4
    have ct2_5 : u2.cell? ⟨u1.heap.size, 5, none⟩ = some (.int .u64 en) := Zt2.out.cell 5
    have ct2_6 : u2.cell? ⟨u1.heap.size, 6, none⟩ = some (.bool true) := Zt2.out.cell 6
    have ct2_7 : u2.cell? ⟨u1.heap.size, 7, none⟩ = some (.int .u64 a) := Zt2.out.cell 7
    have ct2_8 : u2.cell? ⟨u1.heap.size, 8, none⟩ = some (.int .i64 c) := Zt2.out.cell 8
    have ct2_9 : u2.cell? ⟨u1.heap.size, 9, none⟩ = some (.int .u64 s0) := Zt2.out.cell 9
    have ct2_10 : u2.cell? ⟨u1.heap.size, 10, none⟩ = some (.int .u64 s1) := Zt2.out.cell 10
    have ct2_11 : u2.cell? ⟨u1.heap.size, 11, none⟩ = some (.int .u64 s2) := Zt2.out.cell 11
    have ct2_12 : u2.cell? ⟨u1.heap.size, 12, none⟩ = some (.int .u64 s3) := Zt2.out.cell 12
    go_wp2_with fail
    go_ret
    exact ⟨rfl, B2.out⟩
  | false =>
    obtain ⟨cc, hc⟩ : ∃ cc, IntKind.u64.wrap fc = cc := ⟨_, rfl⟩
    have HWF : Hid (St.mk fa cc 0 0 t en true fa fc r0 r1 r2 r3).wf := ⟨hf.out, by rw [← hc]; exact wrap_u _, zero_u, zero_u, hw0.out.told, hw0.out.r0, hw0.out.r1, hw0.out.r2, hw0.out.r3⟩
    have C1 : Hid (∀ W : World, Calls Try.prog 10 #[.agg #[.int .u64 r0, .int .u64 r1, .int .u64 r2, .int .u64 r3, .int .i64 t, .int .u64 en, .bool false, .int .u64 a, .int .i64 c, .int .u64 s0, .int .u64 s1, .int .u64 s2, .int .u64 s3], .agg #[.int .u64 fa, .int .i64 fc]] W fun e w' => e = .returned (.tuple #[.agg #[.int .u64 fa, .int .u64 cc, .int .u64 0, .int .u64 0, .int .i64 t, .int .u64 en, .bool true, .int .u64 fa, .int .i64 fc, .int .u64 r0, .int .u64 r1, .int .u64 r2, .int .u64 r3], .int .i64 0]) ∧ Below W.heap.size W w') := fun W => raise_ok r0 r1 r2 r3 t en a c s0 s1 s2 s3 fa fc cc he hc W
    have CR : Hid (∀ (x0 x1 x2 x3 tau : Int) (W : World), Calls Try.prog 11 #[.agg #[.int .u64 x0, .int .u64 x1, .int .u64 x2, .int .u64 x3, .int .i64 tau, .int .u64 en, .bool true, .int .u64 fa, .int .i64 fc, .int .u64 r0, .int .u64 r1, .int .u64 r2, .int .u64 r3]] W fun e w' => e = .returned (.tuple #[.agg #[.int .u64 r0, .int .u64 r1, .int .u64 r2, .int .u64 r3, .int .i64 tau, .int .u64 en, .bool false, .int .u64 0, .int .i64 0, .int .u64 0, .int .u64 0, .int .u64 0, .int .u64 0], .int .i64 0]) ∧ Below W.heap.size W w') := fun x0 x1 x2 x3 tau W => return_ok x0 x1 x2 x3 tau en fa fc r0 r1 r2 r3 W
    have E : ∀ W : World, (binOp .eql 28 (.agg #[.int .u64 r0, .int .u64 r1, .int .u64 r2, .int .u64 r3, .int .i64 t, .int .u64 en, .bool false, .int .u64 0, .int .i64 0, .int .u64 0, .int .u64 0, .int .u64 0, .int .u64 0]) (.agg #[.int .u64 r0, .int .u64 r1, .int .u64 r2, .int .u64 r3, .int .i64 t, .int .u64 en, .bool false, .int .u64 0, .int .i64 0, .int .u64 0, .int .u64 0, .int .u64 0, .int .u64 0])).run Try.prog W = .ok (.bool true) W := fun W => (eqS (St.mk r0 r1 r2 r3 t en false 0 0 0 0 0 0) (St.mk r0 r1 r2 r3 t en false 0 0 0 0 0 0) W).trans (by simp)
    have EN : ∀ W : World, (binOp .neq 26 (.agg #[.int .u64 fa, .int .i64 fc]) (.agg #[.int .u64 fa, .int .i64 fc])).run Try.prog W = .ok (.bool false) W := fun W => (eqFn fa fc fa fc W).trans (by simp)
    have DOES : Hid (∀ (S : St), S.wf → ∀ (A : Ac), ∃ (z : St) (b : Bool), ∀ (W : World), Calls Try.prog 9 #[S.val, .agg #[.int .u64 0, .int .u64 0, .int .u64 0, .int .u64 0, .int .i64 0, .int .u64 0, .bool false, .int .u64 0, .int .i64 0, .int .u64 0, .int .u64 0, .int .u64 0, .int .u64 0], A.val] W fun e w' => e = .returned (.tuple #[(actS S A).val, z.val, .bool b]) ∧ Below W.heap.size W w') := fun S hS A => ⟨_, _, fun W => does_all S (St.mk 0 0 0 0 0 0 false 0 0 0 0 0 0) A hS zero_wf W _ rfl _ _ _ rfl rfl rfl⟩
    clear hc hw0 hf
    go_enter Try.func4, Try.ntmps4
    go_wp2_with fail
    refine (C1.out _).mono ?_
    rintro e u1 ⟨rfl, hb⟩
    have B1 : Hid (Below w.heap.size w u1) := below_then (below_new (below_new (Below.refl _ _) _) _) hb
    have Zs1 : Hid (Blk u1 (w.heap.size) [.int .u64 r0, .int .u64 r1, .int .u64 r2, .int .u64 r3, .int .i64 t, .int .u64 en, .bool false, .int .u64 a, .int .i64 c, .int .u64 s0, .int .u64 s1, .int .u64 s2, .int .u64 s3] 28) := Blk.below (made2_0 _ _ _ _ _) hb
    have Zf1 : Hid (Blk u1 (w.heap.size + 1) [.int .u64 fa, .int .i64 fc] 26) := Blk.below (made2_1 _ _ _ _ _) hb
    clear hb C1
    go_wp2_with fail
    have Ys : Hid (Blk (u1.alloc (.cells #[.int .u64 fa, .int .u64 cc, .int .u64 0, .int .u64 0, .int .i64 t, .int .u64 en, .bool true, .int .u64 fa, .int .i64 fc, .int .u64 r0, .int .u64 r1, .int .u64 r2, .int .u64 r3] 28)) w.heap.size [.int .u64 r0, .int .u64 r1, .int .u64 r2, .int .u64 r3, .int .i64 t, .int .u64 en, .bool false, .int .u64 a, .int .i64 c, .int .u64 s0, .int .u64 s1, .int .u64 s2, .int .u64 s3] 28) := Zs1.out.below (Go.Joins.below_alloc1 _ _)
    have Yf : Hid (Blk (u1.alloc (.cells #[.int .u64 fa, .int .u64 cc, .int .u64 0, .int .u64 0, .int .i64 t, .int .u64 en, .bool true, .int .u64 fa, .int .i64 fc, .int .u64 r0, .int .u64 r1, .int .u64 r2, .int .u64 r3] 28)) (w.heap.size + 1) [.int .u64 fa, .int .i64 fc] 26) := Zf1.out.below (Go.Joins.below_alloc1 _ _)
    have Yt : Hid (Blk (u1.alloc (.cells #[.int .u64 fa, .int .u64 cc, .int .u64 0, .int .u64 0, .int .i64 t, .int .u64 en, .bool true, .int .u64 fa, .int .i64 fc, .int .u64 r0, .int .u64 r1, .int .u64 r2, .int .u64 r3] 28)) u1.heap.size [.int .u64 fa, .int .u64 cc, .int .u64 0, .int .u64 0, .int .i64 t, .int .u64 en, .bool true, .int .u64 fa, .int .i64 fc, .int .u64 r0, .int .u64 r1, .int .u64 r2, .int .u64 r3] 28) := Blk.made _ _ _
    have YB : Hid (Below w.heap.size w (u1.alloc (.cells #[.int .u64 fa, .int .u64 cc, .int .u64 0, .int .u64 0, .int .i64 t, .int .u64 en, .bool true, .int .u64 fa, .int .i64 fc, .int .u64 r0, .int .u64 r1, .int .u64 r2, .int .u64 r3] 28))) := below_new B1.out _
    have NX : Hid (w.heap.size + 1 < u1.heap.size) := blk_lt Zf1.out
    clear Zs1 Zf1 B1
    generalize u1.alloc (.cells #[.int .u64 fa, .int .u64 cc, .int .u64 0, .int .u64 0, .int .i64 t, .int .u64 en, .bool true, .int .u64 fa, .int .i64 fc, .int .u64 r0, .int .u64 r1, .int .u64 r2, .int .u64 r3] 28) = u2 at Ys Yf Yt YB ⊢
    generalize u1.heap.size = bt at Yt NX ⊢
    go_loopw [9] (fun v W => ∃ (k : Nat) (x0 x1 x2 x3 tau : Int), k ≤ n2 ∧ k ≤ 40 ∧ v = .int .i64 k ∧ Hid (St.mk x0 x1 x2 x3 tau en true fa fc r0 r1 r2 r3).wf ∧ Hid (Blk W w.heap.size [.int .u64 r0, .int .u64 r1, .int .u64 r2, .int .u64 r3, .int .i64 t, .int .u64 en, .bool false, .int .u64 a, .int .i64 c, .int .u64 s0, .int .u64 s1, .int .u64 s2, .int .u64 s3] 28) ∧ Hid (Blk W (w.heap.size + 1) [.int .u64 fa, .int .i64 fc] 26) ∧ Hid (Blk W bt [.int .u64 x0, .int .u64 x1, .int .u64 x2, .int .u64 x3, .int .i64 tau, .int .u64 en, .bool true, .int .u64 fa, .int .i64 fc, .int .u64 r0, .int .u64 r1, .int .u64 r2, .int .u64 r3] 28) ∧ Hid (Below w.heap.size w W)) (fun v _ => 40 - (intOf v).toNat)
    case atStart => exact ⟨0, fa, cc, 0, 0, t, by omega, by omega, rfl, HWF, Ys, Yf, Yt, YB⟩
    case round =>
      clear Ys Yf Yt YB HWF
      obtain ⟨k, x0, x1, x2, x3, tau, hk, hk4, rfl, hS, Zs, Zf, Zt, BW⟩ := hrel
      by_cases hlt : k < n2
      rotate_left
      · have hd : decide ((k : Int) < (n2 : Int)) = false := by simp; omega
        skip
        have Zs1 := Zs
        have Zf1 := Zf
        have Zt1 := Zt
        have B1 := BW
        clear Zs Zf Zt BW DOES HA
        have CR1 : Hid (∀ W : World, Calls Try.prog 11 #[.agg #[.int .u64 x0, .int .u64 x1, .int .u64 x2, .int .u64 x3, .int .i64 tau, .int .u64 en, .bool true, .int .u64 fa, .int .i64 fc, .int .u64 r0, .int .u64 r1, .int .u64 r2, .int .u64 r3]] W fun e w' => e = .returned (.tuple #[.agg #[.int .u64 r0, .int .u64 r1, .int .u64 r2, .int .u64 r3, .int .i64 tau, .int .u64 en, .bool false, .int .u64 0, .int .i64 0, .int .u64 0, .int .u64 0, .int .u64 0, .int .u64 0], .int .i64 0]) ∧ Below W.heap.size W w') := fun W => CR.out x0 x1 x2 x3 tau W
        clear CR
        generalize wr = u1 at *
        have lf1 : w.heap.size + 1 < u1.heap.size := blk_lt Zf1.out
        have cf1_0 : u1.cell? ⟨w.heap.size + 1, 0, none⟩ = some (.int .u64 fa) := Zf1.out.cell 0
        have cf1_1 : u1.cell? ⟨w.heap.size + 1, 1, none⟩ = some (.int .i64 fc) := Zf1.out.cell 1
        have lt1 : bt < u1.heap.size := blk_lt Zt1.out
        have ct1_0 : u1.cell? ⟨bt, 0, none⟩ = some (.int .u64 x0) := Zt1.out.cell 0
        have ct1_1 : u1.cell? ⟨bt, 1, none⟩ = some (.int .u64 x1) := Zt1.out.cell 1
        have ct1_2 : u1.cell? ⟨bt, 2, none⟩ = some (.int .u64 x2) := Zt1.out.cell 2
        have ct1_3 : u1.cell? ⟨bt, 3, none⟩ = some (.int .u64 x3) := Zt1.out.cell 3
        have ct1_4 : u1.cell? ⟨bt, 4, none⟩ = some (.int .i64 tau) := Zt1.out.cell 4
        have ct1_5 : u1.cell? ⟨bt, 5, none⟩ = some (.int .u64 en) := Zt1.out.cell 5
        have ct1_6 : u1.cell? ⟨bt, 6, none⟩ = some (.bool true) := Zt1.out.cell 6
        have ct1_7 : u1.cell? ⟨bt, 7, none⟩ = some (.int .u64 fa) := Zt1.out.cell 7
        have ct1_8 : u1.cell? ⟨bt, 8, none⟩ = some (.int .i64 fc) := Zt1.out.cell 8
        have ct1_9 : u1.cell? ⟨bt, 9, none⟩ = some (.int .u64 r0) := Zt1.out.cell 9
        have ct1_10 : u1.cell? ⟨bt, 10, none⟩ = some (.int .u64 r1) := Zt1.out.cell 10
        have ct1_11 : u1.cell? ⟨bt, 11, none⟩ = some (.int .u64 r2) := Zt1.out.cell 11
        have ct1_12 : u1.cell? ⟨bt, 12, none⟩ = some (.int .u64 r3) := Zt1.out.cell 12
        go_wp2_with fail
        clear lf1 cf1_0 cf1_1
        refine (CR1.out _).mono ?_
        rintro e u2 ⟨rfl, hb⟩
        have B2 : Hid (Below w.heap.size w u2) := below_then (B1.out) hb
        have Zs2 : Hid (Blk u2 (w.heap.size) [.int .u64 r0, .int .u64 r1, .int .u64 r2, .int .u64 r3, .int .i64 t, .int .u64 en, .bool false, .int .u64 a, .int .i64 c, .int .u64 s0, .int .u64 s1, .int .u64 s2, .int .u64 s3] 28) := Zs1.out.below hb
        clear hb B1 Zs1 Zf1 Zt1 CR1
        have ls2 : w.heap.size < u2.heap.size := blk_lt Zs2.out
        have cs2_0 : u2.cell? ⟨w.heap.size, 0, none⟩ = some (.int .u64 r0) := Zs2.out.cell 0
        have cs2_1 : u2.cell? ⟨w.heap.size, 1, none⟩ = some (.int .u64 r1) := Zs2.out.cell 1
        have cs2_2 : u2.cell? ⟨w.heap.size, 2, none⟩ = some (.int .u64 r2) := Zs2.out.cell 2
        have cs2_3 : u2.cell? ⟨w.heap.size, 3, none⟩ = some (.int .u64 r3) := Zs2.out.cell 3
        have cs2_4 : u2.cell? ⟨w.heap.size, 4, none⟩ = some (.int .i64 t) := Zs2.out.cell 4
        have cs2_5 : u2.cell? ⟨w.heap.size, 5, none⟩ = some (.int .u64 en) := Zs2.out.cell 5
        have cs2_6 : u2.cell? ⟨w.heap.size, 6, none⟩ = some (.bool false) := Zs2.out.cell 6
        have cs2_7 : u2.cell? ⟨w.heap.size, 7, none⟩ = some (.int .u64 a) := Zs2.out.cell 7
        have cs2_8 : u2.cell? ⟨w.heap.size, 8, none⟩ = some (.int .i64 c) := Zs2.out.cell 8
        have cs2_9 : u2.cell? ⟨w.heap.size, 9, none⟩ = some (.int .u64 s0) := Zs2.out.cell 9
        have cs2_10 : u2.cell? ⟨w.heap.size, 10, none⟩ = some (.int .u64 s1) := Zs2.out.cell 10
        have cs2_11 : u2.cell? ⟨w.heap.size, 11, none⟩ = some (.int .u64 s2) := Zs2.out.cell 11
        have cs2_12 : u2.cell? ⟨w.heap.size, 12, none⟩ = some (.int .u64 s3) := Zs2.out.cell 12
        have fs2_0 : u2.frozen? ⟨w.heap.size, 0, none⟩ = false := Zs2.out.free 0
        have fs2_1 : u2.frozen? ⟨w.heap.size, 1, none⟩ = false := Zs2.out.free 1
        have fs2_2 : u2.frozen? ⟨w.heap.size, 2, none⟩ = false := Zs2.out.free 2
        have fs2_3 : u2.frozen? ⟨w.heap.size, 3, none⟩ = false := Zs2.out.free 3
        have fs2_4 : u2.frozen? ⟨w.heap.size, 4, none⟩ = false := Zs2.out.free 4
        have fs2_5 : u2.frozen? ⟨w.heap.size, 5, none⟩ = false := Zs2.out.free 5
        have fs2_6 : u2.frozen? ⟨w.heap.size, 6, none⟩ = false := Zs2.out.free 6
        have fs2_7 : u2.frozen? ⟨w.heap.size, 7, none⟩ = false := Zs2.out.free 7
        have fs2_8 : u2.frozen? ⟨w.heap.size, 8, none⟩ = false := Zs2.out.free 8
        have fs2_9 : u2.frozen? ⟨w.heap.size, 9, none⟩ = false := Zs2.out.free 9
        have fs2_10 : u2.frozen? ⟨w.heap.size, 10, none⟩ = false := Zs2.out.free 10
        have fs2_11 : u2.frozen? ⟨w.heap.size, 11, none⟩ = false := Zs2.out.free 11
        have fs2_12 : u2.frozen? ⟨w.heap.size, 12, none⟩ = false := Zs2.out.free 12
        go_wp2_with fail
        have VV : Hid (Blk ((u2.setCells w.heap.size 7 [.int .u64 0, .int .i64 0, .int .u64 0, .int .u64 0, .int .u64 0, .int .u64 0]).alloc (.cells #[.int .u64 r0, .int .u64 r1, .int .u64 r2, .int .u64 r3, .int .i64 t, .int .u64 en, .bool false, .int .u64 0, .int .i64 0, .int .u64 0, .int .u64 0, .int .u64 0, .int .u64 0] 28)) u2.heap.size [.int .u64 r0, .int .u64 r1, .int .u64 r2, .int .u64 r3, .int .i64 t, .int .u64 en, .bool false, .int .u64 0, .int .i64 0, .int .u64 0, .int .u64 0, .int .u64 0, .int .u64 0] 28) := by
          have h := Blk.made (u2.setCells w.heap.size 7 [.int .u64 0, .int .i64 0, .int .u64 0, .int .u64 0, .int .u64 0, .int .u64 0]) [.int .u64 r0, .int .u64 r1, .int .u64 r2, .int .u64 r3, .int .i64 t, .int .u64 en, .bool false, .int .u64 0, .int .i64 0, .int .u64 0, .int .u64 0, .int .u64 0, .int .u64 0] 28
          rw [size_scs] at h
          exact h
        have SS : Hid (Blk ((u2.setCells w.heap.size 7 [.int .u64 0, .int .i64 0, .int .u64 0, .int .u64 0, .int .u64 0, .int .u64 0]).alloc (.cells #[.int .u64 r0, .int .u64 r1, .int .u64 r2, .int .u64 r3, .int .i64 t, .int .u64 en, .bool false, .int .u64 0, .int .i64 0, .int .u64 0, .int .u64 0, .int .u64 0, .int .u64 0] 28)) w.heap.size [.int .u64 r0, .int .u64 r1, .int .u64 r2, .int .u64 r3, .int .i64 t, .int .u64 en, .bool false, .int .u64 0, .int .i64 0, .int .u64 0, .int .u64 0, .int .u64 0, .int .u64 0] 28) := Blk.below (Blk.scsame Zs2.out [.int .u64 0, .int .i64 0, .int .u64 0, .int .u64 0, .int .u64 0, .int .u64 0] 7) (Go.Joins.below_alloc1 _ _)
        have BB : Hid (Below w.heap.size w ((u2.setCells w.heap.size 7 [.int .u64 0, .int .i64 0, .int .u64 0, .int .u64 0, .int .u64 0, .int .u64 0]).alloc (.cells #[.int .u64 r0, .int .u64 r1, .int .u64 r2, .int .u64 r3, .int .i64 t, .int .u64 en, .bool false, .int .u64 0, .int .i64 0, .int .u64 0, .int .u64 0, .int .u64 0, .int .u64 0] 28))) := below_new (below_scs B2.out (Nat.le_refl _) [.int .u64 0, .int .i64 0, .int .u64 0, .int .u64 0, .int .u64 0, .int .u64 0] 7) _
        refine (AW.out _).mono ?_
        rintro e u3 ⟨rfl, hb⟩
        have Zs3 : Hid (Blk u3 w.heap.size [.int .u64 r0, .int .u64 r1, .int .u64 r2, .int .u64 r3, .int .i64 t, .int .u64 en, .bool false, .int .u64 0, .int .i64 0, .int .u64 0, .int .u64 0, .int .u64 0, .int .u64 0] 28) := Blk.below SS.out hb
        have Zv3 : Hid (Blk u3 u2.heap.size [.int .u64 r0, .int .u64 r1, .int .u64 r2, .int .u64 r3, .int .i64 t, .int .u64 en, .bool false, .int .u64 0, .int .i64 0, .int .u64 0, .int .u64 0, .int .u64 0, .int .u64 0] 28) := Blk.below VV.out hb
        have B3 : Hid (Below w.heap.size w u3) := below_then BB.out hb
        clear hb VV SS BB
        have ks0 : u3.cell? ⟨w.heap.size, 0, none⟩ = some (.int .u64 r0) := Blk.cell Zs3.out 0
        have ks1 : u3.cell? ⟨w.heap.size, 1, none⟩ = some (.int .u64 r1) := Blk.cell Zs3.out 1
        have ks2 : u3.cell? ⟨w.heap.size, 2, none⟩ = some (.int .u64 r2) := Blk.cell Zs3.out 2
        have ks3 : u3.cell? ⟨w.heap.size, 3, none⟩ = some (.int .u64 r3) := Blk.cell Zs3.out 3
        have ks4 : u3.cell? ⟨w.heap.size, 4, none⟩ = some (.int .i64 t) := Blk.cell Zs3.out 4
        have ks5 : u3.cell? ⟨w.heap.size, 5, none⟩ = some (.int .u64 en) := Blk.cell Zs3.out 5
        have ks6 : u3.cell? ⟨w.heap.size, 6, none⟩ = some (.bool false) := Blk.cell Zs3.out 6
        have ks7 : u3.cell? ⟨w.heap.size, 7, none⟩ = some (.int .u64 0) := Blk.cell Zs3.out 7
        have ks8 : u3.cell? ⟨w.heap.size, 8, none⟩ = some (.int .i64 0) := Blk.cell Zs3.out 8
        have ks9 : u3.cell? ⟨w.heap.size, 9, none⟩ = some (.int .u64 0) := Blk.cell Zs3.out 9
        have ks10 : u3.cell? ⟨w.heap.size, 10, none⟩ = some (.int .u64 0) := Blk.cell Zs3.out 10
        have ks11 : u3.cell? ⟨w.heap.size, 11, none⟩ = some (.int .u64 0) := Blk.cell Zs3.out 11
        have ks12 : u3.cell? ⟨w.heap.size, 12, none⟩ = some (.int .u64 0) := Blk.cell Zs3.out 12
        have kv0 : u3.cell? ⟨u2.heap.size, 0, none⟩ = some (.int .u64 r0) := Blk.cell Zv3.out 0
        have kv1 : u3.cell? ⟨u2.heap.size, 1, none⟩ = some (.int .u64 r1) := Blk.cell Zv3.out 1
        have kv2 : u3.cell? ⟨u2.heap.size, 2, none⟩ = some (.int .u64 r2) := Blk.cell Zv3.out 2
        have kv3 : u3.cell? ⟨u2.heap.size, 3, none⟩ = some (.int .u64 r3) := Blk.cell Zv3.out 3
        have kv4 : u3.cell? ⟨u2.heap.size, 4, none⟩ = some (.int .i64 t) := Blk.cell Zv3.out 4
        have kv5 : u3.cell? ⟨u2.heap.size, 5, none⟩ = some (.int .u64 en) := Blk.cell Zv3.out 5
        have kv6 : u3.cell? ⟨u2.heap.size, 6, none⟩ = some (.bool false) := Blk.cell Zv3.out 6
        have kv7 : u3.cell? ⟨u2.heap.size, 7, none⟩ = some (.int .u64 0) := Blk.cell Zv3.out 7
        have kv8 : u3.cell? ⟨u2.heap.size, 8, none⟩ = some (.int .i64 0) := Blk.cell Zv3.out 8
        have kv9 : u3.cell? ⟨u2.heap.size, 9, none⟩ = some (.int .u64 0) := Blk.cell Zv3.out 9
        have kv10 : u3.cell? ⟨u2.heap.size, 10, none⟩ = some (.int .u64 0) := Blk.cell Zv3.out 10
        have kv11 : u3.cell? ⟨u2.heap.size, 11, none⟩ = some (.int .u64 0) := Blk.cell Zv3.out 11
        have kv12 : u3.cell? ⟨u2.heap.size, 12, none⟩ = some (.int .u64 0) := Blk.cell Zv3.out 12
        go_wp2_with fail
        go_ret
        exact ⟨rfl, B3.out⟩
      have hd : decide ((k : Int) < (n2 : Int)) = true := by simp; omega
      by_cases hl4 : k < 40
      rotate_left
      · have hd2 : decide ((k : Int) < 40) = false := by simp; omega
        skip
        have Zs1 := Zs
        have Zf1 := Zf
        have Zt1 := Zt
        have B1 := BW
        clear Zs Zf Zt BW DOES HA
        have CR1 : Hid (∀ W : World, Calls Try.prog 11 #[.agg #[.int .u64 x0, .int .u64 x1, .int .u64 x2, .int .u64 x3, .int .i64 tau, .int .u64 en, .bool true, .int .u64 fa, .int .i64 fc, .int .u64 r0, .int .u64 r1, .int .u64 r2, .int .u64 r3]] W fun e w' => e = .returned (.tuple #[.agg #[.int .u64 r0, .int .u64 r1, .int .u64 r2, .int .u64 r3, .int .i64 tau, .int .u64 en, .bool false, .int .u64 0, .int .i64 0, .int .u64 0, .int .u64 0, .int .u64 0, .int .u64 0], .int .i64 0]) ∧ Below W.heap.size W w') := fun W => CR.out x0 x1 x2 x3 tau W
        clear CR
        generalize wr = u1 at *
        have lf1 : w.heap.size + 1 < u1.heap.size := blk_lt Zf1.out
        have cf1_0 : u1.cell? ⟨w.heap.size + 1, 0, none⟩ = some (.int .u64 fa) := Zf1.out.cell 0
        have cf1_1 : u1.cell? ⟨w.heap.size + 1, 1, none⟩ = some (.int .i64 fc) := Zf1.out.cell 1
        have lt1 : bt < u1.heap.size := blk_lt Zt1.out
        have ct1_0 : u1.cell? ⟨bt, 0, none⟩ = some (.int .u64 x0) := Zt1.out.cell 0
        have ct1_1 : u1.cell? ⟨bt, 1, none⟩ = some (.int .u64 x1) := Zt1.out.cell 1
        have ct1_2 : u1.cell? ⟨bt, 2, none⟩ = some (.int .u64 x2) := Zt1.out.cell 2
        have ct1_3 : u1.cell? ⟨bt, 3, none⟩ = some (.int .u64 x3) := Zt1.out.cell 3
        have ct1_4 : u1.cell? ⟨bt, 4, none⟩ = some (.int .i64 tau) := Zt1.out.cell 4
        have ct1_5 : u1.cell? ⟨bt, 5, none⟩ = some (.int .u64 en) := Zt1.out.cell 5
        have ct1_6 : u1.cell? ⟨bt, 6, none⟩ = some (.bool true) := Zt1.out.cell 6
        have ct1_7 : u1.cell? ⟨bt, 7, none⟩ = some (.int .u64 fa) := Zt1.out.cell 7
        have ct1_8 : u1.cell? ⟨bt, 8, none⟩ = some (.int .i64 fc) := Zt1.out.cell 8
        have ct1_9 : u1.cell? ⟨bt, 9, none⟩ = some (.int .u64 r0) := Zt1.out.cell 9
        have ct1_10 : u1.cell? ⟨bt, 10, none⟩ = some (.int .u64 r1) := Zt1.out.cell 10
        have ct1_11 : u1.cell? ⟨bt, 11, none⟩ = some (.int .u64 r2) := Zt1.out.cell 11
        have ct1_12 : u1.cell? ⟨bt, 12, none⟩ = some (.int .u64 r3) := Zt1.out.cell 12
        go_wp2_with fail
        clear lf1 cf1_0 cf1_1
        refine (CR1.out _).mono ?_
        rintro e u2 ⟨rfl, hb⟩
        have B2 : Hid (Below w.heap.size w u2) := below_then (B1.out) hb
        have Zs2 : Hid (Blk u2 (w.heap.size) [.int .u64 r0, .int .u64 r1, .int .u64 r2, .int .u64 r3, .int .i64 t, .int .u64 en, .bool false, .int .u64 a, .int .i64 c, .int .u64 s0, .int .u64 s1, .int .u64 s2, .int .u64 s3] 28) := Zs1.out.below hb
        clear hb B1 Zs1 Zf1 Zt1 CR1
        have ls2 : w.heap.size < u2.heap.size := blk_lt Zs2.out
        have cs2_0 : u2.cell? ⟨w.heap.size, 0, none⟩ = some (.int .u64 r0) := Zs2.out.cell 0
        have cs2_1 : u2.cell? ⟨w.heap.size, 1, none⟩ = some (.int .u64 r1) := Zs2.out.cell 1
        have cs2_2 : u2.cell? ⟨w.heap.size, 2, none⟩ = some (.int .u64 r2) := Zs2.out.cell 2
        have cs2_3 : u2.cell? ⟨w.heap.size, 3, none⟩ = some (.int .u64 r3) := Zs2.out.cell 3
        have cs2_4 : u2.cell? ⟨w.heap.size, 4, none⟩ = some (.int .i64 t) := Zs2.out.cell 4
        have cs2_5 : u2.cell? ⟨w.heap.size, 5, none⟩ = some (.int .u64 en) := Zs2.out.cell 5
        have cs2_6 : u2.cell? ⟨w.heap.size, 6, none⟩ = some (.bool false) := Zs2.out.cell 6
        have cs2_7 : u2.cell? ⟨w.heap.size, 7, none⟩ = some (.int .u64 a) := Zs2.out.cell 7
        have cs2_8 : u2.cell? ⟨w.heap.size, 8, none⟩ = some (.int .i64 c) := Zs2.out.cell 8
        have cs2_9 : u2.cell? ⟨w.heap.size, 9, none⟩ = some (.int .u64 s0) := Zs2.out.cell 9
        have cs2_10 : u2.cell? ⟨w.heap.size, 10, none⟩ = some (.int .u64 s1) := Zs2.out.cell 10
        have cs2_11 : u2.cell? ⟨w.heap.size, 11, none⟩ = some (.int .u64 s2) := Zs2.out.cell 11
        have cs2_12 : u2.cell? ⟨w.heap.size, 12, none⟩ = some (.int .u64 s3) := Zs2.out.cell 12
        have fs2_0 : u2.frozen? ⟨w.heap.size, 0, none⟩ = false := Zs2.out.free 0
        have fs2_1 : u2.frozen? ⟨w.heap.size, 1, none⟩ = false := Zs2.out.free 1
        have fs2_2 : u2.frozen? ⟨w.heap.size, 2, none⟩ = false := Zs2.out.free 2
        have fs2_3 : u2.frozen? ⟨w.heap.size, 3, none⟩ = false := Zs2.out.free 3
        have fs2_4 : u2.frozen? ⟨w.heap.size, 4, none⟩ = false := Zs2.out.free 4
        have fs2_5 : u2.frozen? ⟨w.heap.size, 5, none⟩ = false := Zs2.out.free 5
        have fs2_6 : u2.frozen? ⟨w.heap.size, 6, none⟩ = false := Zs2.out.free 6
        have fs2_7 : u2.frozen? ⟨w.heap.size, 7, none⟩ = false := Zs2.out.free 7
        have fs2_8 : u2.frozen? ⟨w.heap.size, 8, none⟩ = false := Zs2.out.free 8
        have fs2_9 : u2.frozen? ⟨w.heap.size, 9, none⟩ = false := Zs2.out.free 9
        have fs2_10 : u2.frozen? ⟨w.heap.size, 10, none⟩ = false := Zs2.out.free 10
        have fs2_11 : u2.frozen? ⟨w.heap.size, 11, none⟩ = false := Zs2.out.free 11
        have fs2_12 : u2.frozen? ⟨w.heap.size, 12, none⟩ = false := Zs2.out.free 12
        go_wp2_with fail
        have VV : Hid (Blk ((u2.setCells w.heap.size 7 [.int .u64 0, .int .i64 0, .int .u64 0, .int .u64 0, .int .u64 0, .int .u64 0]).alloc (.cells #[.int .u64 r0, .int .u64 r1, .int .u64 r2, .int .u64 r3, .int .i64 t, .int .u64 en, .bool false, .int .u64 0, .int .i64 0, .int .u64 0, .int .u64 0, .int .u64 0, .int .u64 0] 28)) u2.heap.size [.int .u64 r0, .int .u64 r1, .int .u64 r2, .int .u64 r3, .int .i64 t, .int .u64 en, .bool false, .int .u64 0, .int .i64 0, .int .u64 0, .int .u64 0, .int .u64 0, .int .u64 0] 28) := by
          have h := Blk.made (u2.setCells w.heap.size 7 [.int .u64 0, .int .i64 0, .int .u64 0, .int .u64 0, .int .u64 0, .int .u64 0]) [.int .u64 r0, .int .u64 r1, .int .u64 r2, .int .u64 r3, .int .i64 t, .int .u64 en, .bool false, .int .u64 0, .int .i64 0, .int .u64 0, .int .u64 0, .int .u64 0, .int .u64 0] 28
          rw [size_scs] at h
          exact h
        have SS : Hid (Blk ((u2.setCells w.heap.size 7 [.int .u64 0, .int .i64 0, .int .u64 0, .int .u64 0, .int .u64 0, .int .u64 0]).alloc (.cells #[.int .u64 r0, .int .u64 r1, .int .u64 r2, .int .u64 r3, .int .i64 t, .int .u64 en, .bool false, .int .u64 0, .int .i64 0, .int .u64 0, .int .u64 0, .int .u64 0, .int .u64 0] 28)) w.heap.size [.int .u64 r0, .int .u64 r1, .int .u64 r2, .int .u64 r3, .int .i64 t, .int .u64 en, .bool false, .int .u64 0, .int .i64 0, .int .u64 0, .int .u64 0, .int .u64 0, .int .u64 0] 28) := Blk.below (Blk.scsame Zs2.out [.int .u64 0, .int .i64 0, .int .u64 0, .int .u64 0, .int .u64 0, .int .u64 0] 7) (Go.Joins.below_alloc1 _ _)
        have BB : Hid (Below w.heap.size w ((u2.setCells w.heap.size 7 [.int .u64 0, .int .i64 0, .int .u64 0, .int .u64 0, .int .u64 0, .int .u64 0]).alloc (.cells #[.int .u64 r0, .int .u64 r1, .int .u64 r2, .int .u64 r3, .int .i64 t, .int .u64 en, .bool false, .int .u64 0, .int .i64 0, .int .u64 0, .int .u64 0, .int .u64 0, .int .u64 0] 28))) := below_new (below_scs B2.out (Nat.le_refl _) [.int .u64 0, .int .i64 0, .int .u64 0, .int .u64 0, .int .u64 0, .int .u64 0] 7) _
        refine (AW.out _).mono ?_
        rintro e u3 ⟨rfl, hb⟩
        have Zs3 : Hid (Blk u3 w.heap.size [.int .u64 r0, .int .u64 r1, .int .u64 r2, .int .u64 r3, .int .i64 t, .int .u64 en, .bool false, .int .u64 0, .int .i64 0, .int .u64 0, .int .u64 0, .int .u64 0, .int .u64 0] 28) := Blk.below SS.out hb
        have Zv3 : Hid (Blk u3 u2.heap.size [.int .u64 r0, .int .u64 r1, .int .u64 r2, .int .u64 r3, .int .i64 t, .int .u64 en, .bool false, .int .u64 0, .int .i64 0, .int .u64 0, .int .u64 0, .int .u64 0, .int .u64 0] 28) := Blk.below VV.out hb
        have B3 : Hid (Below w.heap.size w u3) := below_then BB.out hb
        clear hb VV SS BB
        have ks0 : u3.cell? ⟨w.heap.size, 0, none⟩ = some (.int .u64 r0) := Blk.cell Zs3.out 0
        have ks1 : u3.cell? ⟨w.heap.size, 1, none⟩ = some (.int .u64 r1) := Blk.cell Zs3.out 1
        have ks2 : u3.cell? ⟨w.heap.size, 2, none⟩ = some (.int .u64 r2) := Blk.cell Zs3.out 2
        have ks3 : u3.cell? ⟨w.heap.size, 3, none⟩ = some (.int .u64 r3) := Blk.cell Zs3.out 3
        have ks4 : u3.cell? ⟨w.heap.size, 4, none⟩ = some (.int .i64 t) := Blk.cell Zs3.out 4
        have ks5 : u3.cell? ⟨w.heap.size, 5, none⟩ = some (.int .u64 en) := Blk.cell Zs3.out 5
        have ks6 : u3.cell? ⟨w.heap.size, 6, none⟩ = some (.bool false) := Blk.cell Zs3.out 6
        have ks7 : u3.cell? ⟨w.heap.size, 7, none⟩ = some (.int .u64 0) := Blk.cell Zs3.out 7
        have ks8 : u3.cell? ⟨w.heap.size, 8, none⟩ = some (.int .i64 0) := Blk.cell Zs3.out 8
        have ks9 : u3.cell? ⟨w.heap.size, 9, none⟩ = some (.int .u64 0) := Blk.cell Zs3.out 9
        have ks10 : u3.cell? ⟨w.heap.size, 10, none⟩ = some (.int .u64 0) := Blk.cell Zs3.out 10
        have ks11 : u3.cell? ⟨w.heap.size, 11, none⟩ = some (.int .u64 0) := Blk.cell Zs3.out 11
        have ks12 : u3.cell? ⟨w.heap.size, 12, none⟩ = some (.int .u64 0) := Blk.cell Zs3.out 12
        have kv0 : u3.cell? ⟨u2.heap.size, 0, none⟩ = some (.int .u64 r0) := Blk.cell Zv3.out 0
        have kv1 : u3.cell? ⟨u2.heap.size, 1, none⟩ = some (.int .u64 r1) := Blk.cell Zv3.out 1
        have kv2 : u3.cell? ⟨u2.heap.size, 2, none⟩ = some (.int .u64 r2) := Blk.cell Zv3.out 2
        have kv3 : u3.cell? ⟨u2.heap.size, 3, none⟩ = some (.int .u64 r3) := Blk.cell Zv3.out 3
        have kv4 : u3.cell? ⟨u2.heap.size, 4, none⟩ = some (.int .i64 t) := Blk.cell Zv3.out 4
        have kv5 : u3.cell? ⟨u2.heap.size, 5, none⟩ = some (.int .u64 en) := Blk.cell Zv3.out 5
        have kv6 : u3.cell? ⟨u2.heap.size, 6, none⟩ = some (.bool false) := Blk.cell Zv3.out 6
        have kv7 : u3.cell? ⟨u2.heap.size, 7, none⟩ = some (.int .u64 0) := Blk.cell Zv3.out 7
        have kv8 : u3.cell? ⟨u2.heap.size, 8, none⟩ = some (.int .i64 0) := Blk.cell Zv3.out 8
        have kv9 : u3.cell? ⟨u2.heap.size, 9, none⟩ = some (.int .u64 0) := Blk.cell Zv3.out 9
        have kv10 : u3.cell? ⟨u2.heap.size, 10, none⟩ = some (.int .u64 0) := Blk.cell Zv3.out 10
        have kv11 : u3.cell? ⟨u2.heap.size, 11, none⟩ = some (.int .u64 0) := Blk.cell Zv3.out 11
        have kv12 : u3.cell? ⟨u2.heap.size, 12, none⟩ = some (.int .u64 0) := Blk.cell Zv3.out 12
        go_wp2_with fail
        go_ret
        exact ⟨rfl, B3.out⟩
      have hd2 : decide ((k : Int) < 40) = true := by simp; omega
      clear CR E EN AW
      have hd0 : decide ((k : Int) < 0) = false := by simp
      obtain ⟨bq, oq, rfl, lq, y0, y1, y2, y3, y4, y5, y6, y7, g5, g6, g7⟩ := HA.out k hlt
      have z0 : wr.cell? ⟨bq, oq + k * 8 + 0, none⟩ = some (.int .i64 (A2 k).kind) := (World.cell?_of_block (BW.out.block bq lq)).trans y0
      have z1 : wr.cell? ⟨bq, oq + k * 8 + 1, none⟩ = some (.int .i64 (A2 k).op) := (World.cell?_of_block (BW.out.block bq lq)).trans y1
      have z2 : wr.cell? ⟨bq, oq + k * 8 + 2, none⟩ = some (.int .i64 (A2 k).a) := (World.cell?_of_block (BW.out.block bq lq)).trans y2
      have z3 : wr.cell? ⟨bq, oq + k * 8 + 3, none⟩ = some (.int .i64 (A2 k).b) := (World.cell?_of_block (BW.out.block bq lq)).trans y3
      have z4 : wr.cell? ⟨bq, oq + k * 8 + 4, none⟩ = some (.int .i64 (A2 k).d) := (World.cell?_of_block (BW.out.block bq lq)).trans y4
      have z5 : wr.cell? ⟨bq, oq + k * 8 + 5, none⟩ = some (.int .u64 (A2 k).x) := (World.cell?_of_block (BW.out.block bq lq)).trans y5
      have z6 : wr.cell? ⟨bq, oq + k * 8 + 6, none⟩ = some (.int .u64 (A2 k).fa) := (World.cell?_of_block (BW.out.block bq lq)).trans y6
      have z7 : wr.cell? ⟨bq, oq + k * 8 + 7, none⟩ = some (.int .i64 (A2 k).fc) := (World.cell?_of_block (BW.out.block bq lq)).trans y7
      have lq2 : bq < wr.heap.size := Nat.lt_of_lt_of_le lq BW.out.size
      clear y0 y1 y2 y3 y4 y5 y6 y7 g7
      have DD := DOES.out (St.mk x0 x1 x2 x3 tau en true fa fc r0 r1 r2 r3) hS.out (A2 k)
      have HK := act_keeps (St.mk x0 x1 x2 x3 tau en true fa fc r0 r1 r2 r3) (A2 k)
      have HW : Hid (actS (St.mk x0 x1 x2 x3 tau en true fa fc r0 r1 r2 r3) (A2 k)).wf := actS_wf hS.out (wfu g5) (wfu g6)
      clear g5 g6
      generalize A2 k = ac at z0 z1 z2 z3 z4 z5 z6 z7 DD HW HK
      obtain ⟨kd, op, a1, b, d, x, ga, gc⟩ := ac
      simp only at z0 z1 z2 z3 z4 z5 z6 z7 HK
      have ACT : Hid (wr.rangeAt bq (oq + k * 8) [.int .i64 kd, .int .i64 op, .int .i64 a1, .int .i64 b, .int .i64 d, .int .u64 x, .int .u64 ga, .int .i64 gc]) := fun j v hv => by
        match j with
        | 0 => cases hv; exact z0
        | 1 => cases hv; exact z1
        | 2 => cases hv; exact z2
        | 3 => cases hv; exact z3
        | 4 => cases hv; exact z4
        | 5 => cases hv; exact z5
        | 6 => cases hv; exact z6
        | 7 => cases hv; exact z7
        | j + 8 => simp at hv
      clear z1 z2 z3 z4 z5 z6 z7
      have zk : wr.cell? ⟨bq, oq + k * 8, none⟩ = some (.int .i64 kd) := z0
      clear z0
      by_cases k45 : kd = 4 ∨ kd = 5
      rotate_left
      · have k4 : (kd == 4) = false := by simp; omega
        have k5 : (kd == 5) = false := by simp; omega
        clear DD HK HW ACT DOES HA
        go_wp2_with fail
        go_roundw
        case rel => exact ⟨k + 1, x0, x1, x2, x3, tau, by omega, by omega, by go_num, hS, Zs, Zf, Zt, BW⟩
        case measure => simp [intOf]; omega
      have HK := HK k45
      generalize hS2 : actS (St.mk x0 x1 x2 x3 tau en true fa fc r0 r1 r2 r3) ⟨kd, op, a1, b, d, x, ga, gc⟩ = S2 at DD HW HK
      obtain ⟨y0, y1, y2, y3, ty, yen, yin, yfa, yfc, ys0, ys1, ys2, ys3⟩ := S2
      simp only at HK
      obtain ⟨e1, e2, e3, e4, e5, e6, e7, e8⟩ := HK
      have e1 := e1.symm
      subst e1
      have e2 := e2.symm
      subst e2
      have e3 := e3.symm
      subst e3
      have e4 := e4.symm
      subst e4
      have e5 := e5.symm
      subst e5
      have e6 := e6.symm
      subst e6
      have e7 := e7.symm
      subst e7
      have e8 := e8.symm
      subst e8
      have CDX := DD
      clear DD
      clear hS2 hS
      obtain ⟨zz, bz, CD⟩ : ∃ (z : St) (b0 : Bool), Hid (∀ W : World, Calls Try.prog 9 #[.agg #[.int .u64 x0, .int .u64 x1, .int .u64 x2, .int .u64 x3, .int .i64 tau, .int .u64 en, .bool true, .int .u64 fa, .int .i64 fc, .int .u64 r0, .int .u64 r1, .int .u64 r2, .int .u64 r3], .agg #[.int .u64 0, .int .u64 0, .int .u64 0, .int .u64 0, .int .i64 0, .int .u64 0, .bool false, .int .u64 0, .int .i64 0, .int .u64 0, .int .u64 0, .int .u64 0, .int .u64 0], .agg #[.int .i64 kd, .int .i64 op, .int .i64 a1, .int .i64 b, .int .i64 d, .int .u64 x, .int .u64 ga, .int .i64 gc]] W fun e w' => e = .returned (.tuple #[.agg #[.int .u64 y0, .int .u64 y1, .int .u64 y2, .int .u64 y3, .int .i64 ty, .int .u64 en, .bool true, .int .u64 fa, .int .i64 fc, .int .u64 r0, .int .u64 r1, .int .u64 r2, .int .u64 r3], z.val, .bool b0]) ∧ Below W.heap.size W w') := CDX
      obtain ⟨q0, q1, q2, q3, q4, q5, q6, q7, q8, q9, q10, q11, q12⟩ := zz
      rcases k45 with kd4 | kd5
      · have c4 : (kd == 4) = true := by simp [kd4]
        clear kd4
        go_upto_region 8 with fail
        go_cut [10, 11, 12] (fun va vb vc W => ∃ (b7 b8 : Nat) (bz : Bool), va = .pointer (some ⟨b7, 0, none⟩) ∧ vb = .pointer (some ⟨b8, 0, none⟩) ∧ vc = .bool bz ∧ Hid (Blk W b7 [.int .u64 y0, .int .u64 y1, .int .u64 y2, .int .u64 y3, .int .i64 ty, .int .u64 en, .bool true, .int .u64 fa, .int .i64 fc, .int .u64 r0, .int .u64 r1, .int .u64 r2, .int .u64 r3] 28) ∧ Hid (Blk W w.heap.size [.int .u64 r0, .int .u64 r1, .int .u64 r2, .int .u64 r3, .int .i64 t, .int .u64 en, .bool false, .int .u64 a, .int .i64 c, .int .u64 s0, .int .u64 s1, .int .u64 s2, .int .u64 s3] 28) ∧ Hid (Blk W bt [.int .u64 x0, .int .u64 x1, .int .u64 x2, .int .u64 x3, .int .i64 tau, .int .u64 en, .bool true, .int .u64 fa, .int .i64 fc, .int .u64 r0, .int .u64 r1, .int .u64 r2, .int .u64 r3] 28) ∧ Hid (Below w.heap.size w W) ∧ Hid (Blk W (w.heap.size + 1) [.int .u64 fa, .int .i64 fc] 26) ∧ Hid (b7 ≠ w.heap.size ∧ b7 ≠ bt ∧ b7 ≠ w.heap.size + 1))
        case first =>
          refine wp_region_noPanic ?_
          refine wp_region_held_drew (S := fun cw => Blk cw w.heap.size [.int .u64 r0, .int .u64 r1, .int .u64 r2, .int .u64 r3, .int .i64 t, .int .u64 en, .bool false, .int .u64 a, .int .i64 c, .int .u64 s0, .int .u64 s1, .int .u64 s2, .int .u64 s3] 28 ∧ Blk cw bt [.int .u64 x0, .int .u64 x1, .int .u64 x2, .int .u64 x3, .int .i64 tau, .int .u64 en, .bool true, .int .u64 fa, .int .i64 fc, .int .u64 r0, .int .u64 r1, .int .u64 r2, .int .u64 r3] 28 ∧ Hid (cw.rangeAt bq (oq + k * 8) [.int .i64 kd, .int .i64 op, .int .i64 a1, .int .i64 b, .int .i64 d, .int .u64 x, .int .u64 ga, .int .i64 gc]) ∧ Below w.heap.size w cw ∧ bq < cw.heap.size ∧ Blk cw (w.heap.size + 1) [.int .u64 fa, .int .i64 fc] 26) (by kernel_rfl) ?_ (fun hH => ?_)
          · exact ⟨Zs.out, Zt.out, ACT.out, below_drew BW.out, lq2, Zf.out⟩
          clear Zs Zt Zf ACT BW lq2
          generalize wr.drew = v0 at hH ⊢
          refine wpAnyH_take (i := 0) (oi := ⟨some 63, _, _, _, _, none⟩) (v := .agg #[.int .u64 x0, .int .u64 x1, .int .u64 x2, .int .u64 x3, .int .i64 tau, .int .u64 en, .bool true, .int .u64 fa, .int .i64 fc, .int .u64 r0, .int .u64 r1, .int .u64 r2, .int .u64 r3]) rfl (by kernel_rfl) (by kernel_rfl) (by kernel_rfl) (fun _ _ _ h => h) (yieldsIf_load_mid (by rfl) 28 _ rfl (bt) (0) rfl [.int .u64 x0, .int .u64 x1, .int .u64 x2, .int .u64 x3, .int .i64 tau, .int .u64 en, .bool true, .int .u64 fa, .int .i64 fc, .int .u64 r0, .int .u64 r1, .int .u64 r2, .int .u64 r3] _ (fun _ h => Blk.range h.2.1) Try.underlying28 rfl st_info) (by assumption) ?_
          try simp only [Act.put, List.setIfInBounds_toArray, List.set_cons_zero, List.set_cons_succ]
          refine wpAnyH_take (i := 1) (oi := ⟨some 64, _, _, _, _, none⟩) (v := ?_) rfl (by kernel_rfl) (by kernel_rfl) (by kernel_rfl) (fun _ _ _ h => h) (Or.inl ⟨by rfl, ?_⟩) (by assumption) ?_
          rotate_left
          · intro w hSw; (try dsimp only at hSw); go_simp; (try with_reducible rfl)
          try simp only [Act.put, List.setIfInBounds_toArray, List.set_cons_zero, List.set_cons_succ]
          refine wpAnyH_take (i := 2) (oi := ⟨some 65, _, _, _, _, none⟩) (v := ?_) rfl (by kernel_rfl) (by kernel_rfl) (by kernel_rfl) (fun _ _ _ h => h) (Or.inl ⟨by rfl, ?_⟩) (by assumption) ?_
          rotate_left
          · intro w hSw; (try dsimp only at hSw); go_simp; (try with_reducible rfl)
          try simp only [Act.put, List.setIfInBounds_toArray, List.set_cons_zero, List.set_cons_succ]
          refine wpAnyH_take (i := 3) (oi := ⟨some 66, _, _, _, _, none⟩) (v := ?_) rfl (by kernel_rfl) (by kernel_rfl) (by kernel_rfl) (fun _ _ _ h => h) (Or.inl ⟨by rfl, ?_⟩) (by assumption) ?_
          rotate_left
          · intro w hSw; (try dsimp only at hSw); go_simp; (try with_reducible rfl)
          try simp only [Act.put, List.setIfInBounds_toArray, List.set_cons_zero, List.set_cons_succ]
          refine wpAnyH_take (i := 4) (oi := ⟨some 67, _, _, _, _, none⟩) (v := ?_) rfl (by kernel_rfl) (by kernel_rfl) (by kernel_rfl) (fun _ _ _ h => h) (Or.inl ⟨by rfl, ?_⟩) (by assumption) ?_
          rotate_left
          · intro w hSw; (try dsimp only at hSw); go_simp; (try with_reducible rfl)
          try simp only [Act.put, List.setIfInBounds_toArray, List.set_cons_zero, List.set_cons_succ]
          refine wpAnyH_take (i := 5) (oi := ⟨some 68, _, _, _, _, none⟩) (v := .agg #[.int .i64 kd, .int .i64 op, .int .i64 a1, .int .i64 b, .int .i64 d, .int .u64 x, .int .u64 ga, .int .i64 gc]) rfl (by kernel_rfl) (by kernel_rfl) (by kernel_rfl) (fun _ _ _ h => h) (yieldsIf_load_mid (by rfl) 37 _ rfl (bq) (oq + k * 8) rfl [.int .i64 kd, .int .i64 op, .int .i64 a1, .int .i64 b, .int .i64 d, .int .u64 x, .int .u64 ga, .int .i64 gc] _ (fun _ h => h.2.2.1.out) Try.underlying37 rfl ac_info) (by assumption) ?_
          try simp only [Act.put, List.setIfInBounds_toArray, List.set_cons_zero, List.set_cons_succ]
          refine wpAnyH_ready (rs := [6, 11, 12]) (by kernel_rfl) (by simp) ?_
          refine AllReadyH.cons (o := ⟨some 69, _, _, _, _, none⟩) rfl (fun K hK => ?_) ?_
          · go_simp
            go_wp2_with (go_at_call 9; refine (CD.out _).mono ?_; rintro e v1 ⟨rfl, hb⟩)
            refine hK.out _ _ ⟨Blk.below hH.1 hb, Blk.below hH.2.1 hb, range_below hH.2.2.1.out hb hH.2.2.2.2.1, below_then hH.2.2.2.1 hb, Nat.lt_of_lt_of_le hH.2.2.2.2.1 (Below.size hb), Blk.below hH.2.2.2.2.2 hb⟩ (fun hH1 => ?_)
            clear hK K hb hH 
            try simp only [Act.put, List.setIfInBounds_toArray, List.set_cons_zero, List.set_cons_succ]
            refine wpAnyH_take (i := 7) (oi := ⟨some 62, _, _, _, _, none⟩) (v := ?_) rfl (by kernel_rfl) (by kernel_rfl) (by kernel_rfl) (fun _ _ _ h => h) (Or.inl ⟨by rfl, ?_⟩) (by assumption) ?_
            rotate_left
            · intro w hSw; (try dsimp only at hSw); go_simp; (try with_reducible rfl)
            try simp only [Act.put, List.setIfInBounds_toArray, List.set_cons_zero, List.set_cons_succ]
            refine wpAnyH_take (i := 8) (oi := ⟨some 70, _, _, _, _, none⟩) (v := ?_) rfl (by kernel_rfl) (by kernel_rfl) (by kernel_rfl) (fun _ _ _ h => h) (Or.inl ⟨by rfl, ?_⟩) (by assumption) ?_
            rotate_left
            · intro w hSw; (try dsimp only at hSw); go_simp; (try with_reducible rfl)
            try simp only [Act.put, List.setIfInBounds_toArray, List.set_cons_zero, List.set_cons_succ]
            refine wpAnyH_take (i := 9) (oi := ⟨some 71, _, _, _, _, none⟩) (v := ?_) rfl (by kernel_rfl) (by kernel_rfl) (by kernel_rfl) (fun _ _ _ h => h) (Or.inl ⟨by rfl, ?_⟩) (by assumption) ?_
            rotate_left
            · intro w hSw; (try dsimp only at hSw); go_simp; (try with_reducible rfl)
            try simp only [Act.put, List.setIfInBounds_toArray, List.set_cons_zero, List.set_cons_succ]
            refine wpAnyH_take (i := 10) (oi := ⟨some 72, _, _, _, _, none⟩) (v := ?_) rfl (by kernel_rfl) (by kernel_rfl) (by kernel_rfl) (fun _ _ _ h => h) (Or.inl ⟨by rfl, ?_⟩) (by assumption) ?_
            rotate_left
            · intro w hSw; (try dsimp only at hSw); go_simp; (try with_reducible rfl)
            try simp only [Act.put, List.setIfInBounds_toArray, List.set_cons_zero, List.set_cons_succ]
            refine wpAnyH_ready (rs := [11, 12]) (by kernel_rfl) (by simp) ?_
            refine AllReadyH.cons (o := ⟨some 10, _, _, _, _, none⟩) rfl (fun K hK => ?_) ?_
            · go_simp
              have NB2 : Hid (Below v1.heap.size v1 (v1.alloc (.cells #[.int .u64 0, .int .u64 0, .int .u64 0, .int .u64 0, .int .i64 0, .int .u64 0, .bool false, .int .u64 0, .int .i64 0, .int .u64 0, .int .u64 0, .int .u64 0, .int .u64 0] 28))) := Go.Joins.below_alloc1 _ _
              have n2 : Hid (Blk (v1.alloc (.cells #[.int .u64 0, .int .u64 0, .int .u64 0, .int .u64 0, .int .i64 0, .int .u64 0, .bool false, .int .u64 0, .int .i64 0, .int .u64 0, .int .u64 0, .int .u64 0, .int .u64 0] 28)) v1.heap.size [.int .u64 0, .int .u64 0, .int .u64 0, .int .u64 0, .int .i64 0, .int .u64 0, .bool false, .int .u64 0, .int .i64 0, .int .u64 0, .int .u64 0, .int .u64 0, .int .u64 0] 28) := Blk.made _ _ _
              have N2 : Hid ((v1.heap.size ≠ w.heap.size ∧ v1.heap.size ≠ bt ∧ v1.heap.size ≠ w.heap.size + 1) ∧ v1.heap.size ≠ bq ∧ w.heap.size ≤ v1.heap.size) := ⟨⟨by have := blk_lt hH1.1; omega, by have := blk_lt hH1.2.1; omega, by have := blk_lt hH1.2.2.2.2.2; omega⟩, by have := hH1.2.2.2.2.1; omega, Below.size hH1.2.2.2.1⟩
              refine hK.out _ _ ⟨Blk.below hH1.1 NB2.out, Blk.below hH1.2.1 NB2.out, range_below hH1.2.2.1.out NB2.out hH1.2.2.2.2.1, below_then hH1.2.2.2.1 NB2.out, Nat.lt_of_lt_of_le hH1.2.2.2.2.1 (Below.size NB2.out), Blk.below hH1.2.2.2.2.2 NB2.out⟩ (fun hH2 => ?_)
              clear hK K hH1 NB2 
              try simp only [Act.put, List.setIfInBounds_toArray, List.set_cons_zero, List.set_cons_succ]
              generalize v1.alloc (.cells #[.int .u64 0, .int .u64 0, .int .u64 0, .int .u64 0, .int .i64 0, .int .u64 0, .bool false, .int .u64 0, .int .i64 0, .int .u64 0, .int .u64 0, .int .u64 0, .int .u64 0] 28) = v2 at hH2 n2  ⊢
              generalize v1.heap.size = b7 at n2 N2 ⊢
              have Qb7 : Hid _ := N2
              refine wpAnyH_ready (rs := [12]) (by kernel_rfl) (by simp) ?_
              refine AllReadyH.cons (o := ⟨some 11, _, _, _, _, none⟩) rfl (fun K hK => ?_) AllReadyH.nil
              go_simp
              have NB3 : Hid (Below v2.heap.size v2 (v2.alloc (.cells #[.int .u64 0, .int .u64 0, .int .u64 0, .int .u64 0, .int .i64 0, .int .u64 0, .bool false, .int .u64 0, .int .i64 0, .int .u64 0, .int .u64 0, .int .u64 0, .int .u64 0] 31))) := Go.Joins.below_alloc1 _ _
              have mb73 := Blk.below n2.out NB3.out
              have mb73 : Hid _ := mb73
              have n3 : Hid (Blk (v2.alloc (.cells #[.int .u64 0, .int .u64 0, .int .u64 0, .int .u64 0, .int .i64 0, .int .u64 0, .bool false, .int .u64 0, .int .i64 0, .int .u64 0, .int .u64 0, .int .u64 0, .int .u64 0] 31)) v2.heap.size [.int .u64 0, .int .u64 0, .int .u64 0, .int .u64 0, .int .i64 0, .int .u64 0, .bool false, .int .u64 0, .int .i64 0, .int .u64 0, .int .u64 0, .int .u64 0, .int .u64 0] 31) := Blk.made _ _ _
              have N3 : Hid ((v2.heap.size ≠ w.heap.size ∧ v2.heap.size ≠ bt ∧ v2.heap.size ≠ w.heap.size + 1) ∧ v2.heap.size ≠ bq ∧ w.heap.size ≤ v2.heap.size ∧ v2.heap.size ≠ b7) := ⟨⟨by have := blk_lt hH2.1; omega, by have := blk_lt hH2.2.1; omega, by have := blk_lt hH2.2.2.2.2.2; omega⟩, by have := hH2.2.2.2.2.1; omega, Below.size hH2.2.2.2.1, by have := blk_lt n2.out; omega⟩
              refine hK.out _ _ ⟨Blk.below hH2.1 NB3.out, Blk.below hH2.2.1 NB3.out, range_below hH2.2.2.1.out NB3.out hH2.2.2.2.2.1, below_then hH2.2.2.2.1 NB3.out, Nat.lt_of_lt_of_le hH2.2.2.2.2.1 (Below.size NB3.out), Blk.below hH2.2.2.2.2.2 NB3.out⟩ (fun hH3 => ?_)
              clear hK K hH2 NB3 n2
              try simp only [Act.put, List.setIfInBounds_toArray, List.set_cons_zero, List.set_cons_succ]
              generalize v2.alloc (.cells #[.int .u64 0, .int .u64 0, .int .u64 0, .int .u64 0, .int .i64 0, .int .u64 0, .bool false, .int .u64 0, .int .i64 0, .int .u64 0, .int .u64 0, .int .u64 0, .int .u64 0] 31) = v3 at hH3 n3 mb73 ⊢
              generalize v2.heap.size = b8 at n3 N3 ⊢
              have Qb8 : Hid _ := N3
              have P7 := Qb7.out
              have P8 := Qb8.out
              obtain ⟨j1, j2, j3, j4, j5, j6⟩ := hH3
              have i0 := (show (fun cw => Blk cw w.heap.size [.int .u64 r0, .int .u64 r1, .int .u64 r2, .int .u64 r3, .int .i64 t, .int .u64 en, .bool false, .int .u64 a, .int .i64 c, .int .u64 s0, .int .u64 s1, .int .u64 s2, .int .u64 s3] 28 ∧ Blk cw bt [.int .u64 x0, .int .u64 x1, .int .u64 x2, .int .u64 x3, .int .i64 tau, .int .u64 en, .bool true, .int .u64 fa, .int .i64 fc, .int .u64 r0, .int .u64 r1, .int .u64 r2, .int .u64 r3] 28 ∧ Hid (cw.rangeAt bq (oq + k * 8) [.int .i64 kd, .int .i64 op, .int .i64 a1, .int .i64 b, .int .i64 d, .int .u64 x, .int .u64 ga, .int .i64 gc]) ∧ Below w.heap.size w cw ∧ bq < cw.heap.size ∧ Blk cw (w.heap.size + 1) [.int .u64 fa, .int .i64 fc] 26) v3 from ⟨j1, j2, j3, j4, j5, j6⟩)
              refine wpAnyH_ready (rs := [13]) (by kernel_rfl) (by simp) ?_
              refine AllReadyH.cons (o := ⟨none, .store 28 (.tmp 10) (.tmp 70), _, _, _, none⟩) rfl (fun K hK => ?_) AllReadyH.nil
              refine wanted_mp rfl ?_
              have th : v3.there b7 0 13 := Blk.there mb73.out
              refine wp_store_mid _ _ _ rfl b7 0 #[.int .u64 y0, .int .u64 y1, .int .u64 y2, .int .u64 y3, .int .i64 ty, .int .u64 en, .bool true, .int .u64 fa, .int .i64 fc, .int .u64 r0, .int .u64 r1, .int .u64 r2, .int .u64 r3] rfl rfl th st_info (by simp [Value.oneCell']) ?_
              refine hK.out _ _ ?_ (fun i1 => ?_)
              · exact ⟨Blk.scs j1 (by omega) _ 0, Blk.scs j2 (by omega) _ 0, World.rangeAt_setCells_apart j3.out _ 0 _ (Or.inl (by omega)), below_scs j4 (by omega) _ 0, by rw [size_scs]; exact j5, Blk.scs j6 (by omega) _ 0⟩
              clear hK K i0 th
              try simp only [Act.put, List.setIfInBounds_toArray, List.set_cons_zero, List.set_cons_succ]
              simp only [List.toList_toArray] at i1 ⊢
              have Fb7 : Hid (Blk (v3.setCells b7 0 [.int .u64 y0, .int .u64 y1, .int .u64 y2, .int .u64 y3, .int .i64 ty, .int .u64 en, .bool true, .int .u64 fa, .int .i64 fc, .int .u64 r0, .int .u64 r1, .int .u64 r2, .int .u64 r3]) b7 [.int .u64 y0, .int .u64 y1, .int .u64 y2, .int .u64 y3, .int .i64 ty, .int .u64 en, .bool true, .int .u64 fa, .int .i64 fc, .int .u64 r0, .int .u64 r1, .int .u64 r2, .int .u64 r3] 28) := Blk.scsame mb73.out _ 0
              have F2 := Blk.scs (c := b7) n3.out (by omega) [.int .u64 y0, .int .u64 y1, .int .u64 y2, .int .u64 y3, .int .i64 ty, .int .u64 en, .bool true, .int .u64 fa, .int .i64 fc, .int .u64 r0, .int .u64 r1, .int .u64 r2, .int .u64 r3] 0
              have F2 : Hid _ := F2
              generalize v3.setCells b7 0 [.int .u64 y0, .int .u64 y1, .int .u64 y2, .int .u64 y3, .int .i64 ty, .int .u64 en, .bool true, .int .u64 fa, .int .i64 fc, .int .u64 r0, .int .u64 r1, .int .u64 r2, .int .u64 r3] = X1 at i1 Fb7 F2 ⊢
              clear j1 j2 j3 j4 j5 j6 mb73 n3
              obtain ⟨j1, j2, j3, j4, j5, j6⟩ := i1
              have G8 := F2
              clear F2
              have i2 := (show (fun cw => Blk cw w.heap.size [.int .u64 r0, .int .u64 r1, .int .u64 r2, .int .u64 r3, .int .i64 t, .int .u64 en, .bool false, .int .u64 a, .int .i64 c, .int .u64 s0, .int .u64 s1, .int .u64 s2, .int .u64 s3] 28 ∧ Blk cw bt [.int .u64 x0, .int .u64 x1, .int .u64 x2, .int .u64 x3, .int .i64 tau, .int .u64 en, .bool true, .int .u64 fa, .int .i64 fc, .int .u64 r0, .int .u64 r1, .int .u64 r2, .int .u64 r3] 28 ∧ Hid (cw.rangeAt bq (oq + k * 8) [.int .i64 kd, .int .i64 op, .int .i64 a1, .int .i64 b, .int .i64 d, .int .u64 x, .int .u64 ga, .int .i64 gc]) ∧ Below w.heap.size w cw ∧ bq < cw.heap.size ∧ Blk cw (w.heap.size + 1) [.int .u64 fa, .int .i64 fc] 26) X1 from ⟨j1, j2, j3, j4, j5, j6⟩)
              refine wpAnyH_ready (rs := [14]) (by kernel_rfl) (by simp) ?_
              refine AllReadyH.cons (o := ⟨none, .store 31 (.tmp 11) (.tmp 71), _, _, _, none⟩) rfl (fun K hK => ?_) AllReadyH.nil
              refine wanted_mp rfl ?_
              have th : X1.there b8 0 13 := Blk.there G8.out
              refine wp_store_mid _ _ _ rfl b8 0 #[.int .u64 q0, .int .u64 q1, .int .u64 q2, .int .u64 q3, .int .i64 q4, .int .u64 q5, .bool q6, .int .u64 q7, .int .i64 q8, .int .u64 q9, .int .u64 q10, .int .u64 q11, .int .u64 q12] rfl rfl th sx_info (by simp [Value.oneCell']) ?_
              refine hK.out _ _ ?_ (fun i3 => ?_)
              · exact ⟨Blk.scs j1 (by omega) _ 0, Blk.scs j2 (by omega) _ 0, World.rangeAt_setCells_apart j3.out _ 0 _ (Or.inl (by omega)), below_scs j4 (by omega) _ 0, by rw [size_scs]; exact j5, Blk.scs j6 (by omega) _ 0⟩
              clear hK K i2 th
              try simp only [Act.put, List.setIfInBounds_toArray, List.set_cons_zero, List.set_cons_succ]
              simp only [List.toList_toArray] at i3 ⊢
              have Fb8 : Hid (Blk (X1.setCells b8 0 [.int .u64 q0, .int .u64 q1, .int .u64 q2, .int .u64 q3, .int .i64 q4, .int .u64 q5, .bool q6, .int .u64 q7, .int .i64 q8, .int .u64 q9, .int .u64 q10, .int .u64 q11, .int .u64 q12]) b8 [.int .u64 q0, .int .u64 q1, .int .u64 q2, .int .u64 q3, .int .i64 q4, .int .u64 q5, .bool q6, .int .u64 q7, .int .i64 q8, .int .u64 q9, .int .u64 q10, .int .u64 q11, .int .u64 q12] 31) := Blk.scsame G8.out _ 0
              have F2 := Blk.scs (c := b8) Fb7.out (by omega) [.int .u64 q0, .int .u64 q1, .int .u64 q2, .int .u64 q3, .int .i64 q4, .int .u64 q5, .bool q6, .int .u64 q7, .int .i64 q8, .int .u64 q9, .int .u64 q10, .int .u64 q11, .int .u64 q12] 0
              have F2 : Hid _ := F2
              generalize X1.setCells b8 0 [.int .u64 q0, .int .u64 q1, .int .u64 q2, .int .u64 q3, .int .i64 q4, .int .u64 q5, .bool q6, .int .u64 q7, .int .i64 q8, .int .u64 q9, .int .u64 q10, .int .u64 q11, .int .u64 q12] = X2 at i3 Fb8 F2 ⊢
              clear j1 j2 j3 j4 j5 j6 G8 Fb7
              obtain ⟨j1, j2, j3, j4, j5, j6⟩ := i3
              have i3 := (show (fun cw => Blk cw w.heap.size [.int .u64 r0, .int .u64 r1, .int .u64 r2, .int .u64 r3, .int .i64 t, .int .u64 en, .bool false, .int .u64 a, .int .i64 c, .int .u64 s0, .int .u64 s1, .int .u64 s2, .int .u64 s3] 28 ∧ Blk cw bt [.int .u64 x0, .int .u64 x1, .int .u64 x2, .int .u64 x3, .int .i64 tau, .int .u64 en, .bool true, .int .u64 fa, .int .i64 fc, .int .u64 r0, .int .u64 r1, .int .u64 r2, .int .u64 r3] 28 ∧ Hid (cw.rangeAt bq (oq + k * 8) [.int .i64 kd, .int .i64 op, .int .i64 a1, .int .i64 b, .int .i64 d, .int .u64 x, .int .u64 ga, .int .i64 gc]) ∧ Below w.heap.size w cw ∧ bq < cw.heap.size ∧ Blk cw (w.heap.size + 1) [.int .u64 fa, .int .i64 fc] 26) X2 from ⟨j1, j2, j3, j4, j5, j6⟩)
              refine wpAnyH_take (i := 15) (oi := ⟨some 12, _, _, _, _, none⟩) (v := ?_) rfl (by kernel_rfl) (by kernel_rfl) (by kernel_rfl) (fun _ _ _ h => h) (Or.inl ⟨by rfl, ?_⟩) (by assumption) ?_
              rotate_left
              · intro w hSw; (try dsimp only at hSw); go_simp; (try with_reducible rfl)
              try simp only [Act.put, List.setIfInBounds_toArray, List.set_cons_zero, List.set_cons_succ]
              have W1 : Hid (Blk X2 w.heap.size [.int .u64 r0, .int .u64 r1, .int .u64 r2, .int .u64 r3, .int .i64 t, .int .u64 en, .bool false, .int .u64 a, .int .i64 c, .int .u64 s0, .int .u64 s1, .int .u64 s2, .int .u64 s3] 28) := j1
              have W2 : Hid (Blk X2 bt [.int .u64 x0, .int .u64 x1, .int .u64 x2, .int .u64 x3, .int .i64 tau, .int .u64 en, .bool true, .int .u64 fa, .int .i64 fc, .int .u64 r0, .int .u64 r1, .int .u64 r2, .int .u64 r3] 28) := j2
              have W3 : Hid (Below w.heap.size w X2) := j4
              have W4 : Hid (Blk X2 (w.heap.size + 1) [.int .u64 fa, .int .i64 fc] 26) := j6
              clear j1 j2 j3 j4 j5 j6 i3
              refine wpAnyH_done (by kernel_rfl) ?_ _
              refine NoPanic.normal ?_
              try go_wp2_with fail
              go_meet
              exact ⟨b7, b8, bz, rfl, rfl, rfl, F2, W1, W2, W3, W4, ⟨P7.1.1, P7.1.2.1, P7.1.2.2⟩⟩
            refine AllReadyH.cons (o := ⟨some 11, _, _, _, _, none⟩) rfl (fun K hK => ?_) AllReadyH.nil
            go_simp
            have NB4 : Hid (Below v1.heap.size v1 (v1.alloc (.cells #[.int .u64 0, .int .u64 0, .int .u64 0, .int .u64 0, .int .i64 0, .int .u64 0, .bool false, .int .u64 0, .int .i64 0, .int .u64 0, .int .u64 0, .int .u64 0, .int .u64 0] 31))) := Go.Joins.below_alloc1 _ _
            have n4 : Hid (Blk (v1.alloc (.cells #[.int .u64 0, .int .u64 0, .int .u64 0, .int .u64 0, .int .i64 0, .int .u64 0, .bool false, .int .u64 0, .int .i64 0, .int .u64 0, .int .u64 0, .int .u64 0, .int .u64 0] 31)) v1.heap.size [.int .u64 0, .int .u64 0, .int .u64 0, .int .u64 0, .int .i64 0, .int .u64 0, .bool false, .int .u64 0, .int .i64 0, .int .u64 0, .int .u64 0, .int .u64 0, .int .u64 0] 31) := Blk.made _ _ _
            have N4 : Hid ((v1.heap.size ≠ w.heap.size ∧ v1.heap.size ≠ bt ∧ v1.heap.size ≠ w.heap.size + 1) ∧ v1.heap.size ≠ bq ∧ w.heap.size ≤ v1.heap.size) := ⟨⟨by have := blk_lt hH1.1; omega, by have := blk_lt hH1.2.1; omega, by have := blk_lt hH1.2.2.2.2.2; omega⟩, by have := hH1.2.2.2.2.1; omega, Below.size hH1.2.2.2.1⟩
            refine hK.out _ _ ⟨Blk.below hH1.1 NB4.out, Blk.below hH1.2.1 NB4.out, range_below hH1.2.2.1.out NB4.out hH1.2.2.2.2.1, below_then hH1.2.2.2.1 NB4.out, Nat.lt_of_lt_of_le hH1.2.2.2.2.1 (Below.size NB4.out), Blk.below hH1.2.2.2.2.2 NB4.out⟩ (fun hH4 => ?_)
            clear hK K hH1 NB4 
            try simp only [Act.put, List.setIfInBounds_toArray, List.set_cons_zero, List.set_cons_succ]
            generalize v1.alloc (.cells #[.int .u64 0, .int .u64 0, .int .u64 0, .int .u64 0, .int .i64 0, .int .u64 0, .bool false, .int .u64 0, .int .i64 0, .int .u64 0, .int .u64 0, .int .u64 0, .int .u64 0] 31) = v4 at hH4 n4  ⊢
            generalize v1.heap.size = b8 at n4 N4 ⊢
            have Qb8 : Hid _ := N4
            refine wpAnyH_ready (rs := [11]) (by kernel_rfl) (by simp) ?_
            refine AllReadyH.cons (o := ⟨some 10, _, _, _, _, none⟩) rfl (fun K hK => ?_) AllReadyH.nil
            go_simp
            have NB5 : Hid (Below v4.heap.size v4 (v4.alloc (.cells #[.int .u64 0, .int .u64 0, .int .u64 0, .int .u64 0, .int .i64 0, .int .u64 0, .bool false, .int .u64 0, .int .i64 0, .int .u64 0, .int .u64 0, .int .u64 0, .int .u64 0] 28))) := Go.Joins.below_alloc1 _ _
            have mb85 := Blk.below n4.out NB5.out
            have mb85 : Hid _ := mb85
            have n5 : Hid (Blk (v4.alloc (.cells #[.int .u64 0, .int .u64 0, .int .u64 0, .int .u64 0, .int .i64 0, .int .u64 0, .bool false, .int .u64 0, .int .i64 0, .int .u64 0, .int .u64 0, .int .u64 0, .int .u64 0] 28)) v4.heap.size [.int .u64 0, .int .u64 0, .int .u64 0, .int .u64 0, .int .i64 0, .int .u64 0, .bool false, .int .u64 0, .int .i64 0, .int .u64 0, .int .u64 0, .int .u64 0, .int .u64 0] 28) := Blk.made _ _ _
            have N5 : Hid ((v4.heap.size ≠ w.heap.size ∧ v4.heap.size ≠ bt ∧ v4.heap.size ≠ w.heap.size + 1) ∧ v4.heap.size ≠ bq ∧ w.heap.size ≤ v4.heap.size ∧ v4.heap.size ≠ b8) := ⟨⟨by have := blk_lt hH4.1; omega, by have := blk_lt hH4.2.1; omega, by have := blk_lt hH4.2.2.2.2.2; omega⟩, by have := hH4.2.2.2.2.1; omega, Below.size hH4.2.2.2.1, by have := blk_lt n4.out; omega⟩
            refine hK.out _ _ ⟨Blk.below hH4.1 NB5.out, Blk.below hH4.2.1 NB5.out, range_below hH4.2.2.1.out NB5.out hH4.2.2.2.2.1, below_then hH4.2.2.2.1 NB5.out, Nat.lt_of_lt_of_le hH4.2.2.2.2.1 (Below.size NB5.out), Blk.below hH4.2.2.2.2.2 NB5.out⟩ (fun hH5 => ?_)
            clear hK K hH4 NB5 n4
            try simp only [Act.put, List.setIfInBounds_toArray, List.set_cons_zero, List.set_cons_succ]
            generalize v4.alloc (.cells #[.int .u64 0, .int .u64 0, .int .u64 0, .int .u64 0, .int .i64 0, .int .u64 0, .bool false, .int .u64 0, .int .i64 0, .int .u64 0, .int .u64 0, .int .u64 0, .int .u64 0] 28) = v5 at hH5 n5 mb85 ⊢
            generalize v4.heap.size = b7 at n5 N5 ⊢
            have Qb7 : Hid _ := N5
            have P7 := Qb7.out
            have P8 := Qb8.out
            obtain ⟨j1, j2, j3, j4, j5, j6⟩ := hH5
            have i0 := (show (fun cw => Blk cw w.heap.size [.int .u64 r0, .int .u64 r1, .int .u64 r2, .int .u64 r3, .int .i64 t, .int .u64 en, .bool false, .int .u64 a, .int .i64 c, .int .u64 s0, .int .u64 s1, .int .u64 s2, .int .u64 s3] 28 ∧ Blk cw bt [.int .u64 x0, .int .u64 x1, .int .u64 x2, .int .u64 x3, .int .i64 tau, .int .u64 en, .bool true, .int .u64 fa, .int .i64 fc, .int .u64 r0, .int .u64 r1, .int .u64 r2, .int .u64 r3] 28 ∧ Hid (cw.rangeAt bq (oq + k * 8) [.int .i64 kd, .int .i64 op, .int .i64 a1, .int .i64 b, .int .i64 d, .int .u64 x, .int .u64 ga, .int .i64 gc]) ∧ Below w.heap.size w cw ∧ bq < cw.heap.size ∧ Blk cw (w.heap.size + 1) [.int .u64 fa, .int .i64 fc] 26) v5 from ⟨j1, j2, j3, j4, j5, j6⟩)
            refine wpAnyH_ready (rs := [13]) (by kernel_rfl) (by simp) ?_
            refine AllReadyH.cons (o := ⟨none, .store 28 (.tmp 10) (.tmp 70), _, _, _, none⟩) rfl (fun K hK => ?_) AllReadyH.nil
            refine wanted_mp rfl ?_
            have th : v5.there b7 0 13 := Blk.there n5.out
            refine wp_store_mid _ _ _ rfl b7 0 #[.int .u64 y0, .int .u64 y1, .int .u64 y2, .int .u64 y3, .int .i64 ty, .int .u64 en, .bool true, .int .u64 fa, .int .i64 fc, .int .u64 r0, .int .u64 r1, .int .u64 r2, .int .u64 r3] rfl rfl th st_info (by simp [Value.oneCell']) ?_
            refine hK.out _ _ ?_ (fun i1 => ?_)
            · exact ⟨Blk.scs j1 (by omega) _ 0, Blk.scs j2 (by omega) _ 0, World.rangeAt_setCells_apart j3.out _ 0 _ (Or.inl (by omega)), below_scs j4 (by omega) _ 0, by rw [size_scs]; exact j5, Blk.scs j6 (by omega) _ 0⟩
            clear hK K i0 th
            try simp only [Act.put, List.setIfInBounds_toArray, List.set_cons_zero, List.set_cons_succ]
            simp only [List.toList_toArray] at i1 ⊢
            have Fb7 : Hid (Blk (v5.setCells b7 0 [.int .u64 y0, .int .u64 y1, .int .u64 y2, .int .u64 y3, .int .i64 ty, .int .u64 en, .bool true, .int .u64 fa, .int .i64 fc, .int .u64 r0, .int .u64 r1, .int .u64 r2, .int .u64 r3]) b7 [.int .u64 y0, .int .u64 y1, .int .u64 y2, .int .u64 y3, .int .i64 ty, .int .u64 en, .bool true, .int .u64 fa, .int .i64 fc, .int .u64 r0, .int .u64 r1, .int .u64 r2, .int .u64 r3] 28) := Blk.scsame n5.out _ 0
            have F2 := Blk.scs (c := b7) mb85.out (by omega) [.int .u64 y0, .int .u64 y1, .int .u64 y2, .int .u64 y3, .int .i64 ty, .int .u64 en, .bool true, .int .u64 fa, .int .i64 fc, .int .u64 r0, .int .u64 r1, .int .u64 r2, .int .u64 r3] 0
            have F2 : Hid _ := F2
            generalize v5.setCells b7 0 [.int .u64 y0, .int .u64 y1, .int .u64 y2, .int .u64 y3, .int .i64 ty, .int .u64 en, .bool true, .int .u64 fa, .int .i64 fc, .int .u64 r0, .int .u64 r1, .int .u64 r2, .int .u64 r3] = X1 at i1 Fb7 F2 ⊢
            clear j1 j2 j3 j4 j5 j6 n5 mb85
            obtain ⟨j1, j2, j3, j4, j5, j6⟩ := i1
            have G8 := F2
            clear F2
            have i2 := (show (fun cw => Blk cw w.heap.size [.int .u64 r0, .int .u64 r1, .int .u64 r2, .int .u64 r3, .int .i64 t, .int .u64 en, .bool false, .int .u64 a, .int .i64 c, .int .u64 s0, .int .u64 s1, .int .u64 s2, .int .u64 s3] 28 ∧ Blk cw bt [.int .u64 x0, .int .u64 x1, .int .u64 x2, .int .u64 x3, .int .i64 tau, .int .u64 en, .bool true, .int .u64 fa, .int .i64 fc, .int .u64 r0, .int .u64 r1, .int .u64 r2, .int .u64 r3] 28 ∧ Hid (cw.rangeAt bq (oq + k * 8) [.int .i64 kd, .int .i64 op, .int .i64 a1, .int .i64 b, .int .i64 d, .int .u64 x, .int .u64 ga, .int .i64 gc]) ∧ Below w.heap.size w cw ∧ bq < cw.heap.size ∧ Blk cw (w.heap.size + 1) [.int .u64 fa, .int .i64 fc] 26) X1 from ⟨j1, j2, j3, j4, j5, j6⟩)
            refine wpAnyH_ready (rs := [14]) (by kernel_rfl) (by simp) ?_
            refine AllReadyH.cons (o := ⟨none, .store 31 (.tmp 11) (.tmp 71), _, _, _, none⟩) rfl (fun K hK => ?_) AllReadyH.nil
            refine wanted_mp rfl ?_
            have th : X1.there b8 0 13 := Blk.there G8.out
            refine wp_store_mid _ _ _ rfl b8 0 #[.int .u64 q0, .int .u64 q1, .int .u64 q2, .int .u64 q3, .int .i64 q4, .int .u64 q5, .bool q6, .int .u64 q7, .int .i64 q8, .int .u64 q9, .int .u64 q10, .int .u64 q11, .int .u64 q12] rfl rfl th sx_info (by simp [Value.oneCell']) ?_
            refine hK.out _ _ ?_ (fun i3 => ?_)
            · exact ⟨Blk.scs j1 (by omega) _ 0, Blk.scs j2 (by omega) _ 0, World.rangeAt_setCells_apart j3.out _ 0 _ (Or.inl (by omega)), below_scs j4 (by omega) _ 0, by rw [size_scs]; exact j5, Blk.scs j6 (by omega) _ 0⟩
            clear hK K i2 th
            try simp only [Act.put, List.setIfInBounds_toArray, List.set_cons_zero, List.set_cons_succ]
            simp only [List.toList_toArray] at i3 ⊢
            have Fb8 : Hid (Blk (X1.setCells b8 0 [.int .u64 q0, .int .u64 q1, .int .u64 q2, .int .u64 q3, .int .i64 q4, .int .u64 q5, .bool q6, .int .u64 q7, .int .i64 q8, .int .u64 q9, .int .u64 q10, .int .u64 q11, .int .u64 q12]) b8 [.int .u64 q0, .int .u64 q1, .int .u64 q2, .int .u64 q3, .int .i64 q4, .int .u64 q5, .bool q6, .int .u64 q7, .int .i64 q8, .int .u64 q9, .int .u64 q10, .int .u64 q11, .int .u64 q12] 31) := Blk.scsame G8.out _ 0
            have F2 := Blk.scs (c := b8) Fb7.out (by omega) [.int .u64 q0, .int .u64 q1, .int .u64 q2, .int .u64 q3, .int .i64 q4, .int .u64 q5, .bool q6, .int .u64 q7, .int .i64 q8, .int .u64 q9, .int .u64 q10, .int .u64 q11, .int .u64 q12] 0
            have F2 : Hid _ := F2
            generalize X1.setCells b8 0 [.int .u64 q0, .int .u64 q1, .int .u64 q2, .int .u64 q3, .int .i64 q4, .int .u64 q5, .bool q6, .int .u64 q7, .int .i64 q8, .int .u64 q9, .int .u64 q10, .int .u64 q11, .int .u64 q12] = X2 at i3 Fb8 F2 ⊢
            clear j1 j2 j3 j4 j5 j6 G8 Fb7
            obtain ⟨j1, j2, j3, j4, j5, j6⟩ := i3
            have i3 := (show (fun cw => Blk cw w.heap.size [.int .u64 r0, .int .u64 r1, .int .u64 r2, .int .u64 r3, .int .i64 t, .int .u64 en, .bool false, .int .u64 a, .int .i64 c, .int .u64 s0, .int .u64 s1, .int .u64 s2, .int .u64 s3] 28 ∧ Blk cw bt [.int .u64 x0, .int .u64 x1, .int .u64 x2, .int .u64 x3, .int .i64 tau, .int .u64 en, .bool true, .int .u64 fa, .int .i64 fc, .int .u64 r0, .int .u64 r1, .int .u64 r2, .int .u64 r3] 28 ∧ Hid (cw.rangeAt bq (oq + k * 8) [.int .i64 kd, .int .i64 op, .int .i64 a1, .int .i64 b, .int .i64 d, .int .u64 x, .int .u64 ga, .int .i64 gc]) ∧ Below w.heap.size w cw ∧ bq < cw.heap.size ∧ Blk cw (w.heap.size + 1) [.int .u64 fa, .int .i64 fc] 26) X2 from ⟨j1, j2, j3, j4, j5, j6⟩)
            refine wpAnyH_take (i := 15) (oi := ⟨some 12, _, _, _, _, none⟩) (v := ?_) rfl (by kernel_rfl) (by kernel_rfl) (by kernel_rfl) (fun _ _ _ h => h) (Or.inl ⟨by rfl, ?_⟩) (by assumption) ?_
            rotate_left
            · intro w hSw; (try dsimp only at hSw); go_simp; (try with_reducible rfl)
            try simp only [Act.put, List.setIfInBounds_toArray, List.set_cons_zero, List.set_cons_succ]
            have W1 : Hid (Blk X2 w.heap.size [.int .u64 r0, .int .u64 r1, .int .u64 r2, .int .u64 r3, .int .i64 t, .int .u64 en, .bool false, .int .u64 a, .int .i64 c, .int .u64 s0, .int .u64 s1, .int .u64 s2, .int .u64 s3] 28) := j1
            have W2 : Hid (Blk X2 bt [.int .u64 x0, .int .u64 x1, .int .u64 x2, .int .u64 x3, .int .i64 tau, .int .u64 en, .bool true, .int .u64 fa, .int .i64 fc, .int .u64 r0, .int .u64 r1, .int .u64 r2, .int .u64 r3] 28) := j2
            have W3 : Hid (Below w.heap.size w X2) := j4
            have W4 : Hid (Blk X2 (w.heap.size + 1) [.int .u64 fa, .int .i64 fc] 26) := j6
            clear j1 j2 j3 j4 j5 j6 i3
            refine wpAnyH_done (by kernel_rfl) ?_ _
            refine NoPanic.normal ?_
            try go_wp2_with fail
            go_meet
            exact ⟨b7, b8, bz, rfl, rfl, rfl, F2, W1, W2, W3, W4, ⟨P7.1.1, P7.1.2.1, P7.1.2.2⟩⟩
          refine AllReadyH.cons (o := ⟨some 10, _, _, _, _, none⟩) rfl (fun K hK => ?_) ?_
          · go_simp
            have NB6 : Hid (Below v0.heap.size v0 (v0.alloc (.cells #[.int .u64 0, .int .u64 0, .int .u64 0, .int .u64 0, .int .i64 0, .int .u64 0, .bool false, .int .u64 0, .int .i64 0, .int .u64 0, .int .u64 0, .int .u64 0, .int .u64 0] 28))) := Go.Joins.below_alloc1 _ _
            have n6 : Hid (Blk (v0.alloc (.cells #[.int .u64 0, .int .u64 0, .int .u64 0, .int .u64 0, .int .i64 0, .int .u64 0, .bool false, .int .u64 0, .int .i64 0, .int .u64 0, .int .u64 0, .int .u64 0, .int .u64 0] 28)) v0.heap.size [.int .u64 0, .int .u64 0, .int .u64 0, .int .u64 0, .int .i64 0, .int .u64 0, .bool false, .int .u64 0, .int .i64 0, .int .u64 0, .int .u64 0, .int .u64 0, .int .u64 0] 28) := Blk.made _ _ _
            have N6 : Hid ((v0.heap.size ≠ w.heap.size ∧ v0.heap.size ≠ bt ∧ v0.heap.size ≠ w.heap.size + 1) ∧ v0.heap.size ≠ bq ∧ w.heap.size ≤ v0.heap.size) := ⟨⟨by have := blk_lt hH.1; omega, by have := blk_lt hH.2.1; omega, by have := blk_lt hH.2.2.2.2.2; omega⟩, by have := hH.2.2.2.2.1; omega, Below.size hH.2.2.2.1⟩
            refine hK.out _ _ ⟨Blk.below hH.1 NB6.out, Blk.below hH.2.1 NB6.out, range_below hH.2.2.1.out NB6.out hH.2.2.2.2.1, below_then hH.2.2.2.1 NB6.out, Nat.lt_of_lt_of_le hH.2.2.2.2.1 (Below.size NB6.out), Blk.below hH.2.2.2.2.2 NB6.out⟩ (fun hH6 => ?_)
            clear hK K hH NB6 
            try simp only [Act.put, List.setIfInBounds_toArray, List.set_cons_zero, List.set_cons_succ]
            generalize v0.alloc (.cells #[.int .u64 0, .int .u64 0, .int .u64 0, .int .u64 0, .int .i64 0, .int .u64 0, .bool false, .int .u64 0, .int .i64 0, .int .u64 0, .int .u64 0, .int .u64 0, .int .u64 0] 28) = v6 at hH6 n6  ⊢
            generalize v0.heap.size = b7 at n6 N6 ⊢
            have Qb7 : Hid _ := N6
            refine wpAnyH_ready (rs := [6, 12]) (by kernel_rfl) (by simp) ?_
            refine AllReadyH.cons (o := ⟨some 69, _, _, _, _, none⟩) rfl (fun K hK => ?_) ?_
            · go_simp
              go_wp2_with (go_at_call 9; refine (CD.out _).mono ?_; rintro e v7 ⟨rfl, hb⟩)
              have mb77 : Hid (Blk v7 b7 [.int .u64 0, .int .u64 0, .int .u64 0, .int .u64 0, .int .i64 0, .int .u64 0, .bool false, .int .u64 0, .int .i64 0, .int .u64 0, .int .u64 0, .int .u64 0, .int .u64 0] 28) := Blk.below n6.out hb
              refine hK.out _ _ ⟨Blk.below hH6.1 hb, Blk.below hH6.2.1 hb, range_below hH6.2.2.1.out hb hH6.2.2.2.2.1, below_then hH6.2.2.2.1 hb, Nat.lt_of_lt_of_le hH6.2.2.2.2.1 (Below.size hb), Blk.below hH6.2.2.2.2.2 hb⟩ (fun hH7 => ?_)
              clear hK K hb hH6 n6
              try simp only [Act.put, List.setIfInBounds_toArray, List.set_cons_zero, List.set_cons_succ]
              refine wpAnyH_take (i := 7) (oi := ⟨some 62, _, _, _, _, none⟩) (v := ?_) rfl (by kernel_rfl) (by kernel_rfl) (by kernel_rfl) (fun _ _ _ h => h) (Or.inl ⟨by rfl, ?_⟩) (by assumption) ?_
              rotate_left
              · intro w hSw; (try dsimp only at hSw); go_simp; (try with_reducible rfl)
              try simp only [Act.put, List.setIfInBounds_toArray, List.set_cons_zero, List.set_cons_succ]
              refine wpAnyH_take (i := 8) (oi := ⟨some 70, _, _, _, _, none⟩) (v := ?_) rfl (by kernel_rfl) (by kernel_rfl) (by kernel_rfl) (fun _ _ _ h => h) (Or.inl ⟨by rfl, ?_⟩) (by assumption) ?_
              rotate_left
              · intro w hSw; (try dsimp only at hSw); go_simp; (try with_reducible rfl)
              try simp only [Act.put, List.setIfInBounds_toArray, List.set_cons_zero, List.set_cons_succ]
              refine wpAnyH_take (i := 9) (oi := ⟨some 71, _, _, _, _, none⟩) (v := ?_) rfl (by kernel_rfl) (by kernel_rfl) (by kernel_rfl) (fun _ _ _ h => h) (Or.inl ⟨by rfl, ?_⟩) (by assumption) ?_
              rotate_left
              · intro w hSw; (try dsimp only at hSw); go_simp; (try with_reducible rfl)
              try simp only [Act.put, List.setIfInBounds_toArray, List.set_cons_zero, List.set_cons_succ]
              refine wpAnyH_take (i := 10) (oi := ⟨some 72, _, _, _, _, none⟩) (v := ?_) rfl (by kernel_rfl) (by kernel_rfl) (by kernel_rfl) (fun _ _ _ h => h) (Or.inl ⟨by rfl, ?_⟩) (by assumption) ?_
              rotate_left
              · intro w hSw; (try dsimp only at hSw); go_simp; (try with_reducible rfl)
              try simp only [Act.put, List.setIfInBounds_toArray, List.set_cons_zero, List.set_cons_succ]
              refine wpAnyH_ready (rs := [12]) (by kernel_rfl) (by simp) ?_
              refine AllReadyH.cons (o := ⟨some 11, _, _, _, _, none⟩) rfl (fun K hK => ?_) AllReadyH.nil
              go_simp
              have NB8 : Hid (Below v7.heap.size v7 (v7.alloc (.cells #[.int .u64 0, .int .u64 0, .int .u64 0, .int .u64 0, .int .i64 0, .int .u64 0, .bool false, .int .u64 0, .int .i64 0, .int .u64 0, .int .u64 0, .int .u64 0, .int .u64 0] 31))) := Go.Joins.below_alloc1 _ _
              have mb78 := Blk.below mb77.out NB8.out
              have mb78 : Hid _ := mb78
              have n8 : Hid (Blk (v7.alloc (.cells #[.int .u64 0, .int .u64 0, .int .u64 0, .int .u64 0, .int .i64 0, .int .u64 0, .bool false, .int .u64 0, .int .i64 0, .int .u64 0, .int .u64 0, .int .u64 0, .int .u64 0] 31)) v7.heap.size [.int .u64 0, .int .u64 0, .int .u64 0, .int .u64 0, .int .i64 0, .int .u64 0, .bool false, .int .u64 0, .int .i64 0, .int .u64 0, .int .u64 0, .int .u64 0, .int .u64 0] 31) := Blk.made _ _ _
              have N8 : Hid ((v7.heap.size ≠ w.heap.size ∧ v7.heap.size ≠ bt ∧ v7.heap.size ≠ w.heap.size + 1) ∧ v7.heap.size ≠ bq ∧ w.heap.size ≤ v7.heap.size ∧ v7.heap.size ≠ b7) := ⟨⟨by have := blk_lt hH7.1; omega, by have := blk_lt hH7.2.1; omega, by have := blk_lt hH7.2.2.2.2.2; omega⟩, by have := hH7.2.2.2.2.1; omega, Below.size hH7.2.2.2.1, by have := blk_lt mb77.out; omega⟩
              refine hK.out _ _ ⟨Blk.below hH7.1 NB8.out, Blk.below hH7.2.1 NB8.out, range_below hH7.2.2.1.out NB8.out hH7.2.2.2.2.1, below_then hH7.2.2.2.1 NB8.out, Nat.lt_of_lt_of_le hH7.2.2.2.2.1 (Below.size NB8.out), Blk.below hH7.2.2.2.2.2 NB8.out⟩ (fun hH8 => ?_)
              clear hK K hH7 NB8 mb77
              try simp only [Act.put, List.setIfInBounds_toArray, List.set_cons_zero, List.set_cons_succ]
              generalize v7.alloc (.cells #[.int .u64 0, .int .u64 0, .int .u64 0, .int .u64 0, .int .i64 0, .int .u64 0, .bool false, .int .u64 0, .int .i64 0, .int .u64 0, .int .u64 0, .int .u64 0, .int .u64 0] 31) = v8 at hH8 n8 mb78 ⊢
              generalize v7.heap.size = b8 at n8 N8 ⊢
              have Qb8 : Hid _ := N8
              have P7 := Qb7.out
              have P8 := Qb8.out
              obtain ⟨j1, j2, j3, j4, j5, j6⟩ := hH8
              have i0 := (show (fun cw => Blk cw w.heap.size [.int .u64 r0, .int .u64 r1, .int .u64 r2, .int .u64 r3, .int .i64 t, .int .u64 en, .bool false, .int .u64 a, .int .i64 c, .int .u64 s0, .int .u64 s1, .int .u64 s2, .int .u64 s3] 28 ∧ Blk cw bt [.int .u64 x0, .int .u64 x1, .int .u64 x2, .int .u64 x3, .int .i64 tau, .int .u64 en, .bool true, .int .u64 fa, .int .i64 fc, .int .u64 r0, .int .u64 r1, .int .u64 r2, .int .u64 r3] 28 ∧ Hid (cw.rangeAt bq (oq + k * 8) [.int .i64 kd, .int .i64 op, .int .i64 a1, .int .i64 b, .int .i64 d, .int .u64 x, .int .u64 ga, .int .i64 gc]) ∧ Below w.heap.size w cw ∧ bq < cw.heap.size ∧ Blk cw (w.heap.size + 1) [.int .u64 fa, .int .i64 fc] 26) v8 from ⟨j1, j2, j3, j4, j5, j6⟩)
              refine wpAnyH_ready (rs := [13]) (by kernel_rfl) (by simp) ?_
              refine AllReadyH.cons (o := ⟨none, .store 28 (.tmp 10) (.tmp 70), _, _, _, none⟩) rfl (fun K hK => ?_) AllReadyH.nil
              refine wanted_mp rfl ?_
              have th : v8.there b7 0 13 := Blk.there mb78.out
              refine wp_store_mid _ _ _ rfl b7 0 #[.int .u64 y0, .int .u64 y1, .int .u64 y2, .int .u64 y3, .int .i64 ty, .int .u64 en, .bool true, .int .u64 fa, .int .i64 fc, .int .u64 r0, .int .u64 r1, .int .u64 r2, .int .u64 r3] rfl rfl th st_info (by simp [Value.oneCell']) ?_
              refine hK.out _ _ ?_ (fun i1 => ?_)
              · exact ⟨Blk.scs j1 (by omega) _ 0, Blk.scs j2 (by omega) _ 0, World.rangeAt_setCells_apart j3.out _ 0 _ (Or.inl (by omega)), below_scs j4 (by omega) _ 0, by rw [size_scs]; exact j5, Blk.scs j6 (by omega) _ 0⟩
              clear hK K i0 th
              try simp only [Act.put, List.setIfInBounds_toArray, List.set_cons_zero, List.set_cons_succ]
              simp only [List.toList_toArray] at i1 ⊢
              have Fb7 : Hid (Blk (v8.setCells b7 0 [.int .u64 y0, .int .u64 y1, .int .u64 y2, .int .u64 y3, .int .i64 ty, .int .u64 en, .bool true, .int .u64 fa, .int .i64 fc, .int .u64 r0, .int .u64 r1, .int .u64 r2, .int .u64 r3]) b7 [.int .u64 y0, .int .u64 y1, .int .u64 y2, .int .u64 y3, .int .i64 ty, .int .u64 en, .bool true, .int .u64 fa, .int .i64 fc, .int .u64 r0, .int .u64 r1, .int .u64 r2, .int .u64 r3] 28) := Blk.scsame mb78.out _ 0
              have F2 := Blk.scs (c := b7) n8.out (by omega) [.int .u64 y0, .int .u64 y1, .int .u64 y2, .int .u64 y3, .int .i64 ty, .int .u64 en, .bool true, .int .u64 fa, .int .i64 fc, .int .u64 r0, .int .u64 r1, .int .u64 r2, .int .u64 r3] 0
              have F2 : Hid _ := F2
              generalize v8.setCells b7 0 [.int .u64 y0, .int .u64 y1, .int .u64 y2, .int .u64 y3, .int .i64 ty, .int .u64 en, .bool true, .int .u64 fa, .int .i64 fc, .int .u64 r0, .int .u64 r1, .int .u64 r2, .int .u64 r3] = X1 at i1 Fb7 F2 ⊢
              clear j1 j2 j3 j4 j5 j6 mb78 n8
              obtain ⟨j1, j2, j3, j4, j5, j6⟩ := i1
              have G8 := F2
              clear F2
              have i2 := (show (fun cw => Blk cw w.heap.size [.int .u64 r0, .int .u64 r1, .int .u64 r2, .int .u64 r3, .int .i64 t, .int .u64 en, .bool false, .int .u64 a, .int .i64 c, .int .u64 s0, .int .u64 s1, .int .u64 s2, .int .u64 s3] 28 ∧ Blk cw bt [.int .u64 x0, .int .u64 x1, .int .u64 x2, .int .u64 x3, .int .i64 tau, .int .u64 en, .bool true, .int .u64 fa, .int .i64 fc, .int .u64 r0, .int .u64 r1, .int .u64 r2, .int .u64 r3] 28 ∧ Hid (cw.rangeAt bq (oq + k * 8) [.int .i64 kd, .int .i64 op, .int .i64 a1, .int .i64 b, .int .i64 d, .int .u64 x, .int .u64 ga, .int .i64 gc]) ∧ Below w.heap.size w cw ∧ bq < cw.heap.size ∧ Blk cw (w.heap.size + 1) [.int .u64 fa, .int .i64 fc] 26) X1 from ⟨j1, j2, j3, j4, j5, j6⟩)
              refine wpAnyH_ready (rs := [14]) (by kernel_rfl) (by simp) ?_
              refine AllReadyH.cons (o := ⟨none, .store 31 (.tmp 11) (.tmp 71), _, _, _, none⟩) rfl (fun K hK => ?_) AllReadyH.nil
              refine wanted_mp rfl ?_
              have th : X1.there b8 0 13 := Blk.there G8.out
              refine wp_store_mid _ _ _ rfl b8 0 #[.int .u64 q0, .int .u64 q1, .int .u64 q2, .int .u64 q3, .int .i64 q4, .int .u64 q5, .bool q6, .int .u64 q7, .int .i64 q8, .int .u64 q9, .int .u64 q10, .int .u64 q11, .int .u64 q12] rfl rfl th sx_info (by simp [Value.oneCell']) ?_
              refine hK.out _ _ ?_ (fun i3 => ?_)
              · exact ⟨Blk.scs j1 (by omega) _ 0, Blk.scs j2 (by omega) _ 0, World.rangeAt_setCells_apart j3.out _ 0 _ (Or.inl (by omega)), below_scs j4 (by omega) _ 0, by rw [size_scs]; exact j5, Blk.scs j6 (by omega) _ 0⟩
              clear hK K i2 th
              try simp only [Act.put, List.setIfInBounds_toArray, List.set_cons_zero, List.set_cons_succ]
              simp only [List.toList_toArray] at i3 ⊢
              have Fb8 : Hid (Blk (X1.setCells b8 0 [.int .u64 q0, .int .u64 q1, .int .u64 q2, .int .u64 q3, .int .i64 q4, .int .u64 q5, .bool q6, .int .u64 q7, .int .i64 q8, .int .u64 q9, .int .u64 q10, .int .u64 q11, .int .u64 q12]) b8 [.int .u64 q0, .int .u64 q1, .int .u64 q2, .int .u64 q3, .int .i64 q4, .int .u64 q5, .bool q6, .int .u64 q7, .int .i64 q8, .int .u64 q9, .int .u64 q10, .int .u64 q11, .int .u64 q12] 31) := Blk.scsame G8.out _ 0
              have F2 := Blk.scs (c := b8) Fb7.out (by omega) [.int .u64 q0, .int .u64 q1, .int .u64 q2, .int .u64 q3, .int .i64 q4, .int .u64 q5, .bool q6, .int .u64 q7, .int .i64 q8, .int .u64 q9, .int .u64 q10, .int .u64 q11, .int .u64 q12] 0
              have F2 : Hid _ := F2
              generalize X1.setCells b8 0 [.int .u64 q0, .int .u64 q1, .int .u64 q2, .int .u64 q3, .int .i64 q4, .int .u64 q5, .bool q6, .int .u64 q7, .int .i64 q8, .int .u64 q9, .int .u64 q10, .int .u64 q11, .int .u64 q12] = X2 at i3 Fb8 F2 ⊢
              clear j1 j2 j3 j4 j5 j6 G8 Fb7
              obtain ⟨j1, j2, j3, j4, j5, j6⟩ := i3
              have i3 := (show (fun cw => Blk cw w.heap.size [.int .u64 r0, .int .u64 r1, .int .u64 r2, .int .u64 r3, .int .i64 t, .int .u64 en, .bool false, .int .u64 a, .int .i64 c, .int .u64 s0, .int .u64 s1, .int .u64 s2, .int .u64 s3] 28 ∧ Blk cw bt [.int .u64 x0, .int .u64 x1, .int .u64 x2, .int .u64 x3, .int .i64 tau, .int .u64 en, .bool true, .int .u64 fa, .int .i64 fc, .int .u64 r0, .int .u64 r1, .int .u64 r2, .int .u64 r3] 28 ∧ Hid (cw.rangeAt bq (oq + k * 8) [.int .i64 kd, .int .i64 op, .int .i64 a1, .int .i64 b, .int .i64 d, .int .u64 x, .int .u64 ga, .int .i64 gc]) ∧ Below w.heap.size w cw ∧ bq < cw.heap.size ∧ Blk cw (w.heap.size + 1) [.int .u64 fa, .int .i64 fc] 26) X2 from ⟨j1, j2, j3, j4, j5, j6⟩)
              refine wpAnyH_take (i := 15) (oi := ⟨some 12, _, _, _, _, none⟩) (v := ?_) rfl (by kernel_rfl) (by kernel_rfl) (by kernel_rfl) (fun _ _ _ h => h) (Or.inl ⟨by rfl, ?_⟩) (by assumption) ?_
              rotate_left
              · intro w hSw; (try dsimp only at hSw); go_simp; (try with_reducible rfl)
              try simp only [Act.put, List.setIfInBounds_toArray, List.set_cons_zero, List.set_cons_succ]
              have W1 : Hid (Blk X2 w.heap.size [.int .u64 r0, .int .u64 r1, .int .u64 r2, .int .u64 r3, .int .i64 t, .int .u64 en, .bool false, .int .u64 a, .int .i64 c, .int .u64 s0, .int .u64 s1, .int .u64 s2, .int .u64 s3] 28) := j1
              have W2 : Hid (Blk X2 bt [.int .u64 x0, .int .u64 x1, .int .u64 x2, .int .u64 x3, .int .i64 tau, .int .u64 en, .bool true, .int .u64 fa, .int .i64 fc, .int .u64 r0, .int .u64 r1, .int .u64 r2, .int .u64 r3] 28) := j2
              have W3 : Hid (Below w.heap.size w X2) := j4
              have W4 : Hid (Blk X2 (w.heap.size + 1) [.int .u64 fa, .int .i64 fc] 26) := j6
              clear j1 j2 j3 j4 j5 j6 i3
              refine wpAnyH_done (by kernel_rfl) ?_ _
              refine NoPanic.normal ?_
              try go_wp2_with fail
              go_meet
              exact ⟨b7, b8, bz, rfl, rfl, rfl, F2, W1, W2, W3, W4, ⟨P7.1.1, P7.1.2.1, P7.1.2.2⟩⟩
            refine AllReadyH.cons (o := ⟨some 11, _, _, _, _, none⟩) rfl (fun K hK => ?_) AllReadyH.nil
            go_simp
            have NB9 : Hid (Below v6.heap.size v6 (v6.alloc (.cells #[.int .u64 0, .int .u64 0, .int .u64 0, .int .u64 0, .int .i64 0, .int .u64 0, .bool false, .int .u64 0, .int .i64 0, .int .u64 0, .int .u64 0, .int .u64 0, .int .u64 0] 31))) := Go.Joins.below_alloc1 _ _
            have mb79 := Blk.below n6.out NB9.out
            have mb79 : Hid _ := mb79
            have n9 : Hid (Blk (v6.alloc (.cells #[.int .u64 0, .int .u64 0, .int .u64 0, .int .u64 0, .int .i64 0, .int .u64 0, .bool false, .int .u64 0, .int .i64 0, .int .u64 0, .int .u64 0, .int .u64 0, .int .u64 0] 31)) v6.heap.size [.int .u64 0, .int .u64 0, .int .u64 0, .int .u64 0, .int .i64 0, .int .u64 0, .bool false, .int .u64 0, .int .i64 0, .int .u64 0, .int .u64 0, .int .u64 0, .int .u64 0] 31) := Blk.made _ _ _
            have N9 : Hid ((v6.heap.size ≠ w.heap.size ∧ v6.heap.size ≠ bt ∧ v6.heap.size ≠ w.heap.size + 1) ∧ v6.heap.size ≠ bq ∧ w.heap.size ≤ v6.heap.size ∧ v6.heap.size ≠ b7) := ⟨⟨by have := blk_lt hH6.1; omega, by have := blk_lt hH6.2.1; omega, by have := blk_lt hH6.2.2.2.2.2; omega⟩, by have := hH6.2.2.2.2.1; omega, Below.size hH6.2.2.2.1, by have := blk_lt n6.out; omega⟩
            refine hK.out _ _ ⟨Blk.below hH6.1 NB9.out, Blk.below hH6.2.1 NB9.out, range_below hH6.2.2.1.out NB9.out hH6.2.2.2.2.1, below_then hH6.2.2.2.1 NB9.out, Nat.lt_of_lt_of_le hH6.2.2.2.2.1 (Below.size NB9.out), Blk.below hH6.2.2.2.2.2 NB9.out⟩ (fun hH9 => ?_)
            clear hK K hH6 NB9 n6
            try simp only [Act.put, List.setIfInBounds_toArray, List.set_cons_zero, List.set_cons_succ]
            generalize v6.alloc (.cells #[.int .u64 0, .int .u64 0, .int .u64 0, .int .u64 0, .int .i64 0, .int .u64 0, .bool false, .int .u64 0, .int .i64 0, .int .u64 0, .int .u64 0, .int .u64 0, .int .u64 0] 31) = v9 at hH9 n9 mb79 ⊢
            generalize v6.heap.size = b8 at n9 N9 ⊢
            have Qb8 : Hid _ := N9
            refine wpAnyH_ready (rs := [6]) (by kernel_rfl) (by simp) ?_
            refine AllReadyH.cons (o := ⟨some 69, _, _, _, _, none⟩) rfl (fun K hK => ?_) AllReadyH.nil
            go_simp
            go_wp2_with (go_at_call 9; refine (CD.out _).mono ?_; rintro e v10 ⟨rfl, hb⟩)
            have mb710 : Hid (Blk v10 b7 [.int .u64 0, .int .u64 0, .int .u64 0, .int .u64 0, .int .i64 0, .int .u64 0, .bool false, .int .u64 0, .int .i64 0, .int .u64 0, .int .u64 0, .int .u64 0, .int .u64 0] 28) := Blk.below mb79.out hb
            have mb810 : Hid (Blk v10 b8 [.int .u64 0, .int .u64 0, .int .u64 0, .int .u64 0, .int .i64 0, .int .u64 0, .bool false, .int .u64 0, .int .i64 0, .int .u64 0, .int .u64 0, .int .u64 0, .int .u64 0] 31) := Blk.below n9.out hb
            refine hK.out _ _ ⟨Blk.below hH9.1 hb, Blk.below hH9.2.1 hb, range_below hH9.2.2.1.out hb hH9.2.2.2.2.1, below_then hH9.2.2.2.1 hb, Nat.lt_of_lt_of_le hH9.2.2.2.2.1 (Below.size hb), Blk.below hH9.2.2.2.2.2 hb⟩ (fun hH10 => ?_)
            clear hK K hb hH9 mb79 n9
            try simp only [Act.put, List.setIfInBounds_toArray, List.set_cons_zero, List.set_cons_succ]
            refine wpAnyH_take (i := 7) (oi := ⟨some 62, _, _, _, _, none⟩) (v := ?_) rfl (by kernel_rfl) (by kernel_rfl) (by kernel_rfl) (fun _ _ _ h => h) (Or.inl ⟨by rfl, ?_⟩) (by assumption) ?_
            rotate_left
            · intro w hSw; (try dsimp only at hSw); go_simp; (try with_reducible rfl)
            try simp only [Act.put, List.setIfInBounds_toArray, List.set_cons_zero, List.set_cons_succ]
            refine wpAnyH_take (i := 8) (oi := ⟨some 70, _, _, _, _, none⟩) (v := ?_) rfl (by kernel_rfl) (by kernel_rfl) (by kernel_rfl) (fun _ _ _ h => h) (Or.inl ⟨by rfl, ?_⟩) (by assumption) ?_
            rotate_left
            · intro w hSw; (try dsimp only at hSw); go_simp; (try with_reducible rfl)
            try simp only [Act.put, List.setIfInBounds_toArray, List.set_cons_zero, List.set_cons_succ]
            refine wpAnyH_take (i := 9) (oi := ⟨some 71, _, _, _, _, none⟩) (v := ?_) rfl (by kernel_rfl) (by kernel_rfl) (by kernel_rfl) (fun _ _ _ h => h) (Or.inl ⟨by rfl, ?_⟩) (by assumption) ?_
            rotate_left
            · intro w hSw; (try dsimp only at hSw); go_simp; (try with_reducible rfl)
            try simp only [Act.put, List.setIfInBounds_toArray, List.set_cons_zero, List.set_cons_succ]
            refine wpAnyH_take (i := 10) (oi := ⟨some 72, _, _, _, _, none⟩) (v := ?_) rfl (by kernel_rfl) (by kernel_rfl) (by kernel_rfl) (fun _ _ _ h => h) (Or.inl ⟨by rfl, ?_⟩) (by assumption) ?_
            rotate_left
            · intro w hSw; (try dsimp only at hSw); go_simp; (try with_reducible rfl)
            try simp only [Act.put, List.setIfInBounds_toArray, List.set_cons_zero, List.set_cons_succ]
            have P7 := Qb7.out
            have P8 := Qb8.out
            obtain ⟨j1, j2, j3, j4, j5, j6⟩ := hH10
            have i0 := (show (fun cw => Blk cw w.heap.size [.int .u64 r0, .int .u64 r1, .int .u64 r2, .int .u64 r3, .int .i64 t, .int .u64 en, .bool false, .int .u64 a, .int .i64 c, .int .u64 s0, .int .u64 s1, .int .u64 s2, .int .u64 s3] 28 ∧ Blk cw bt [.int .u64 x0, .int .u64 x1, .int .u64 x2, .int .u64 x3, .int .i64 tau, .int .u64 en, .bool true, .int .u64 fa, .int .i64 fc, .int .u64 r0, .int .u64 r1, .int .u64 r2, .int .u64 r3] 28 ∧ Hid (cw.rangeAt bq (oq + k * 8) [.int .i64 kd, .int .i64 op, .int .i64 a1, .int .i64 b, .int .i64 d, .int .u64 x, .int .u64 ga, .int .i64 gc]) ∧ Below w.heap.size w cw ∧ bq < cw.heap.size ∧ Blk cw (w.heap.size + 1) [.int .u64 fa, .int .i64 fc] 26) v10 from ⟨j1, j2, j3, j4, j5, j6⟩)
            refine wpAnyH_ready (rs := [13]) (by kernel_rfl) (by simp) ?_
            refine AllReadyH.cons (o := ⟨none, .store 28 (.tmp 10) (.tmp 70), _, _, _, none⟩) rfl (fun K hK => ?_) AllReadyH.nil
            refine wanted_mp rfl ?_
            have th : v10.there b7 0 13 := Blk.there mb710.out
            refine wp_store_mid _ _ _ rfl b7 0 #[.int .u64 y0, .int .u64 y1, .int .u64 y2, .int .u64 y3, .int .i64 ty, .int .u64 en, .bool true, .int .u64 fa, .int .i64 fc, .int .u64 r0, .int .u64 r1, .int .u64 r2, .int .u64 r3] rfl rfl th st_info (by simp [Value.oneCell']) ?_
            refine hK.out _ _ ?_ (fun i1 => ?_)
            · exact ⟨Blk.scs j1 (by omega) _ 0, Blk.scs j2 (by omega) _ 0, World.rangeAt_setCells_apart j3.out _ 0 _ (Or.inl (by omega)), below_scs j4 (by omega) _ 0, by rw [size_scs]; exact j5, Blk.scs j6 (by omega) _ 0⟩
            clear hK K i0 th
            try simp only [Act.put, List.setIfInBounds_toArray, List.set_cons_zero, List.set_cons_succ]
            simp only [List.toList_toArray] at i1 ⊢
            have Fb7 : Hid (Blk (v10.setCells b7 0 [.int .u64 y0, .int .u64 y1, .int .u64 y2, .int .u64 y3, .int .i64 ty, .int .u64 en, .bool true, .int .u64 fa, .int .i64 fc, .int .u64 r0, .int .u64 r1, .int .u64 r2, .int .u64 r3]) b7 [.int .u64 y0, .int .u64 y1, .int .u64 y2, .int .u64 y3, .int .i64 ty, .int .u64 en, .bool true, .int .u64 fa, .int .i64 fc, .int .u64 r0, .int .u64 r1, .int .u64 r2, .int .u64 r3] 28) := Blk.scsame mb710.out _ 0
            have F2 := Blk.scs (c := b7) mb810.out (by omega) [.int .u64 y0, .int .u64 y1, .int .u64 y2, .int .u64 y3, .int .i64 ty, .int .u64 en, .bool true, .int .u64 fa, .int .i64 fc, .int .u64 r0, .int .u64 r1, .int .u64 r2, .int .u64 r3] 0
            have F2 : Hid _ := F2
            generalize v10.setCells b7 0 [.int .u64 y0, .int .u64 y1, .int .u64 y2, .int .u64 y3, .int .i64 ty, .int .u64 en, .bool true, .int .u64 fa, .int .i64 fc, .int .u64 r0, .int .u64 r1, .int .u64 r2, .int .u64 r3] = X1 at i1 Fb7 F2 ⊢
            clear j1 j2 j3 j4 j5 j6 mb710 mb810
            obtain ⟨j1, j2, j3, j4, j5, j6⟩ := i1
            have G8 := F2
            clear F2
            have i2 := (show (fun cw => Blk cw w.heap.size [.int .u64 r0, .int .u64 r1, .int .u64 r2, .int .u64 r3, .int .i64 t, .int .u64 en, .bool false, .int .u64 a, .int .i64 c, .int .u64 s0, .int .u64 s1, .int .u64 s2, .int .u64 s3] 28 ∧ Blk cw bt [.int .u64 x0, .int .u64 x1, .int .u64 x2, .int .u64 x3, .int .i64 tau, .int .u64 en, .bool true, .int .u64 fa, .int .i64 fc, .int .u64 r0, .int .u64 r1, .int .u64 r2, .int .u64 r3] 28 ∧ Hid (cw.rangeAt bq (oq + k * 8) [.int .i64 kd, .int .i64 op, .int .i64 a1, .int .i64 b, .int .i64 d, .int .u64 x, .int .u64 ga, .int .i64 gc]) ∧ Below w.heap.size w cw ∧ bq < cw.heap.size ∧ Blk cw (w.heap.size + 1) [.int .u64 fa, .int .i64 fc] 26) X1 from ⟨j1, j2, j3, j4, j5, j6⟩)
            refine wpAnyH_ready (rs := [14]) (by kernel_rfl) (by simp) ?_
            refine AllReadyH.cons (o := ⟨none, .store 31 (.tmp 11) (.tmp 71), _, _, _, none⟩) rfl (fun K hK => ?_) AllReadyH.nil
            refine wanted_mp rfl ?_
            have th : X1.there b8 0 13 := Blk.there G8.out
            refine wp_store_mid _ _ _ rfl b8 0 #[.int .u64 q0, .int .u64 q1, .int .u64 q2, .int .u64 q3, .int .i64 q4, .int .u64 q5, .bool q6, .int .u64 q7, .int .i64 q8, .int .u64 q9, .int .u64 q10, .int .u64 q11, .int .u64 q12] rfl rfl th sx_info (by simp [Value.oneCell']) ?_
            refine hK.out _ _ ?_ (fun i3 => ?_)
            · exact ⟨Blk.scs j1 (by omega) _ 0, Blk.scs j2 (by omega) _ 0, World.rangeAt_setCells_apart j3.out _ 0 _ (Or.inl (by omega)), below_scs j4 (by omega) _ 0, by rw [size_scs]; exact j5, Blk.scs j6 (by omega) _ 0⟩
            clear hK K i2 th
            try simp only [Act.put, List.setIfInBounds_toArray, List.set_cons_zero, List.set_cons_succ]
            simp only [List.toList_toArray] at i3 ⊢
            have Fb8 : Hid (Blk (X1.setCells b8 0 [.int .u64 q0, .int .u64 q1, .int .u64 q2, .int .u64 q3, .int .i64 q4, .int .u64 q5, .bool q6, .int .u64 q7, .int .i64 q8, .int .u64 q9, .int .u64 q10, .int .u64 q11, .int .u64 q12]) b8 [.int .u64 q0, .int .u64 q1, .int .u64 q2, .int .u64 q3, .int .i64 q4, .int .u64 q5, .bool q6, .int .u64 q7, .int .i64 q8, .int .u64 q9, .int .u64 q10, .int .u64 q11, .int .u64 q12] 31) := Blk.scsame G8.out _ 0
            have F2 := Blk.scs (c := b8) Fb7.out (by omega) [.int .u64 q0, .int .u64 q1, .int .u64 q2, .int .u64 q3, .int .i64 q4, .int .u64 q5, .bool q6, .int .u64 q7, .int .i64 q8, .int .u64 q9, .int .u64 q10, .int .u64 q11, .int .u64 q12] 0
            have F2 : Hid _ := F2
            generalize X1.setCells b8 0 [.int .u64 q0, .int .u64 q1, .int .u64 q2, .int .u64 q3, .int .i64 q4, .int .u64 q5, .bool q6, .int .u64 q7, .int .i64 q8, .int .u64 q9, .int .u64 q10, .int .u64 q11, .int .u64 q12] = X2 at i3 Fb8 F2 ⊢
            clear j1 j2 j3 j4 j5 j6 G8 Fb7
            obtain ⟨j1, j2, j3, j4, j5, j6⟩ := i3
            have i3 := (show (fun cw => Blk cw w.heap.size [.int .u64 r0, .int .u64 r1, .int .u64 r2, .int .u64 r3, .int .i64 t, .int .u64 en, .bool false, .int .u64 a, .int .i64 c, .int .u64 s0, .int .u64 s1, .int .u64 s2, .int .u64 s3] 28 ∧ Blk cw bt [.int .u64 x0, .int .u64 x1, .int .u64 x2, .int .u64 x3, .int .i64 tau, .int .u64 en, .bool true, .int .u64 fa, .int .i64 fc, .int .u64 r0, .int .u64 r1, .int .u64 r2, .int .u64 r3] 28 ∧ Hid (cw.rangeAt bq (oq + k * 8) [.int .i64 kd, .int .i64 op, .int .i64 a1, .int .i64 b, .int .i64 d, .int .u64 x, .int .u64 ga, .int .i64 gc]) ∧ Below w.heap.size w cw ∧ bq < cw.heap.size ∧ Blk cw (w.heap.size + 1) [.int .u64 fa, .int .i64 fc] 26) X2 from ⟨j1, j2, j3, j4, j5, j6⟩)
            refine wpAnyH_take (i := 15) (oi := ⟨some 12, _, _, _, _, none⟩) (v := ?_) rfl (by kernel_rfl) (by kernel_rfl) (by kernel_rfl) (fun _ _ _ h => h) (Or.inl ⟨by rfl, ?_⟩) (by assumption) ?_
            rotate_left
            · intro w hSw; (try dsimp only at hSw); go_simp; (try with_reducible rfl)
            try simp only [Act.put, List.setIfInBounds_toArray, List.set_cons_zero, List.set_cons_succ]
            have W1 : Hid (Blk X2 w.heap.size [.int .u64 r0, .int .u64 r1, .int .u64 r2, .int .u64 r3, .int .i64 t, .int .u64 en, .bool false, .int .u64 a, .int .i64 c, .int .u64 s0, .int .u64 s1, .int .u64 s2, .int .u64 s3] 28) := j1
            have W2 : Hid (Blk X2 bt [.int .u64 x0, .int .u64 x1, .int .u64 x2, .int .u64 x3, .int .i64 tau, .int .u64 en, .bool true, .int .u64 fa, .int .i64 fc, .int .u64 r0, .int .u64 r1, .int .u64 r2, .int .u64 r3] 28) := j2
            have W3 : Hid (Below w.heap.size w X2) := j4
            have W4 : Hid (Blk X2 (w.heap.size + 1) [.int .u64 fa, .int .i64 fc] 26) := j6
            clear j1 j2 j3 j4 j5 j6 i3
            refine wpAnyH_done (by kernel_rfl) ?_ _
            refine NoPanic.normal ?_
            try go_wp2_with fail
            go_meet
            exact ⟨b7, b8, bz, rfl, rfl, rfl, F2, W1, W2, W3, W4, ⟨P7.1.1, P7.1.2.1, P7.1.2.2⟩⟩
          refine AllReadyH.cons (o := ⟨some 11, _, _, _, _, none⟩) rfl (fun K hK => ?_) AllReadyH.nil
          go_simp
          have NB11 : Hid (Below v0.heap.size v0 (v0.alloc (.cells #[.int .u64 0, .int .u64 0, .int .u64 0, .int .u64 0, .int .i64 0, .int .u64 0, .bool false, .int .u64 0, .int .i64 0, .int .u64 0, .int .u64 0, .int .u64 0, .int .u64 0] 31))) := Go.Joins.below_alloc1 _ _
          have n11 : Hid (Blk (v0.alloc (.cells #[.int .u64 0, .int .u64 0, .int .u64 0, .int .u64 0, .int .i64 0, .int .u64 0, .bool false, .int .u64 0, .int .i64 0, .int .u64 0, .int .u64 0, .int .u64 0, .int .u64 0] 31)) v0.heap.size [.int .u64 0, .int .u64 0, .int .u64 0, .int .u64 0, .int .i64 0, .int .u64 0, .bool false, .int .u64 0, .int .i64 0, .int .u64 0, .int .u64 0, .int .u64 0, .int .u64 0] 31) := Blk.made _ _ _
          have N11 : Hid ((v0.heap.size ≠ w.heap.size ∧ v0.heap.size ≠ bt ∧ v0.heap.size ≠ w.heap.size + 1) ∧ v0.heap.size ≠ bq ∧ w.heap.size ≤ v0.heap.size) := ⟨⟨by have := blk_lt hH.1; omega, by have := blk_lt hH.2.1; omega, by have := blk_lt hH.2.2.2.2.2; omega⟩, by have := hH.2.2.2.2.1; omega, Below.size hH.2.2.2.1⟩
          refine hK.out _ _ ⟨Blk.below hH.1 NB11.out, Blk.below hH.2.1 NB11.out, range_below hH.2.2.1.out NB11.out hH.2.2.2.2.1, below_then hH.2.2.2.1 NB11.out, Nat.lt_of_lt_of_le hH.2.2.2.2.1 (Below.size NB11.out), Blk.below hH.2.2.2.2.2 NB11.out⟩ (fun hH11 => ?_)
          clear hK K hH NB11 
          try simp only [Act.put, List.setIfInBounds_toArray, List.set_cons_zero, List.set_cons_succ]
          generalize v0.alloc (.cells #[.int .u64 0, .int .u64 0, .int .u64 0, .int .u64 0, .int .i64 0, .int .u64 0, .bool false, .int .u64 0, .int .i64 0, .int .u64 0, .int .u64 0, .int .u64 0, .int .u64 0] 31) = v11 at hH11 n11  ⊢
          generalize v0.heap.size = b8 at n11 N11 ⊢
          have Qb8 : Hid _ := N11
          refine wpAnyH_ready (rs := [6, 11]) (by kernel_rfl) (by simp) ?_
          refine AllReadyH.cons (o := ⟨some 69, _, _, _, _, none⟩) rfl (fun K hK => ?_) ?_
          · go_simp
            go_wp2_with (go_at_call 9; refine (CD.out _).mono ?_; rintro e v12 ⟨rfl, hb⟩)
            have mb812 : Hid (Blk v12 b8 [.int .u64 0, .int .u64 0, .int .u64 0, .int .u64 0, .int .i64 0, .int .u64 0, .bool false, .int .u64 0, .int .i64 0, .int .u64 0, .int .u64 0, .int .u64 0, .int .u64 0] 31) := Blk.below n11.out hb
            refine hK.out _ _ ⟨Blk.below hH11.1 hb, Blk.below hH11.2.1 hb, range_below hH11.2.2.1.out hb hH11.2.2.2.2.1, below_then hH11.2.2.2.1 hb, Nat.lt_of_lt_of_le hH11.2.2.2.2.1 (Below.size hb), Blk.below hH11.2.2.2.2.2 hb⟩ (fun hH12 => ?_)
            clear hK K hb hH11 n11
            try simp only [Act.put, List.setIfInBounds_toArray, List.set_cons_zero, List.set_cons_succ]
            refine wpAnyH_take (i := 7) (oi := ⟨some 62, _, _, _, _, none⟩) (v := ?_) rfl (by kernel_rfl) (by kernel_rfl) (by kernel_rfl) (fun _ _ _ h => h) (Or.inl ⟨by rfl, ?_⟩) (by assumption) ?_
            rotate_left
            · intro w hSw; (try dsimp only at hSw); go_simp; (try with_reducible rfl)
            try simp only [Act.put, List.setIfInBounds_toArray, List.set_cons_zero, List.set_cons_succ]
            refine wpAnyH_take (i := 8) (oi := ⟨some 70, _, _, _, _, none⟩) (v := ?_) rfl (by kernel_rfl) (by kernel_rfl) (by kernel_rfl) (fun _ _ _ h => h) (Or.inl ⟨by rfl, ?_⟩) (by assumption) ?_
            rotate_left
            · intro w hSw; (try dsimp only at hSw); go_simp; (try with_reducible rfl)
            try simp only [Act.put, List.setIfInBounds_toArray, List.set_cons_zero, List.set_cons_succ]
            refine wpAnyH_take (i := 9) (oi := ⟨some 71, _, _, _, _, none⟩) (v := ?_) rfl (by kernel_rfl) (by kernel_rfl) (by kernel_rfl) (fun _ _ _ h => h) (Or.inl ⟨by rfl, ?_⟩) (by assumption) ?_
            rotate_left
            · intro w hSw; (try dsimp only at hSw); go_simp; (try with_reducible rfl)
            try simp only [Act.put, List.setIfInBounds_toArray, List.set_cons_zero, List.set_cons_succ]
            refine wpAnyH_take (i := 10) (oi := ⟨some 72, _, _, _, _, none⟩) (v := ?_) rfl (by kernel_rfl) (by kernel_rfl) (by kernel_rfl) (fun _ _ _ h => h) (Or.inl ⟨by rfl, ?_⟩) (by assumption) ?_
            rotate_left
            · intro w hSw; (try dsimp only at hSw); go_simp; (try with_reducible rfl)
            try simp only [Act.put, List.setIfInBounds_toArray, List.set_cons_zero, List.set_cons_succ]
            refine wpAnyH_ready (rs := [11]) (by kernel_rfl) (by simp) ?_
            refine AllReadyH.cons (o := ⟨some 10, _, _, _, _, none⟩) rfl (fun K hK => ?_) AllReadyH.nil
            go_simp
            have NB13 : Hid (Below v12.heap.size v12 (v12.alloc (.cells #[.int .u64 0, .int .u64 0, .int .u64 0, .int .u64 0, .int .i64 0, .int .u64 0, .bool false, .int .u64 0, .int .i64 0, .int .u64 0, .int .u64 0, .int .u64 0, .int .u64 0] 28))) := Go.Joins.below_alloc1 _ _
            have mb813 := Blk.below mb812.out NB13.out
            have mb813 : Hid _ := mb813
            have n13 : Hid (Blk (v12.alloc (.cells #[.int .u64 0, .int .u64 0, .int .u64 0, .int .u64 0, .int .i64 0, .int .u64 0, .bool false, .int .u64 0, .int .i64 0, .int .u64 0, .int .u64 0, .int .u64 0, .int .u64 0] 28)) v12.heap.size [.int .u64 0, .int .u64 0, .int .u64 0, .int .u64 0, .int .i64 0, .int .u64 0, .bool false, .int .u64 0, .int .i64 0, .int .u64 0, .int .u64 0, .int .u64 0, .int .u64 0] 28) := Blk.made _ _ _
            have N13 : Hid ((v12.heap.size ≠ w.heap.size ∧ v12.heap.size ≠ bt ∧ v12.heap.size ≠ w.heap.size + 1) ∧ v12.heap.size ≠ bq ∧ w.heap.size ≤ v12.heap.size ∧ v12.heap.size ≠ b8) := ⟨⟨by have := blk_lt hH12.1; omega, by have := blk_lt hH12.2.1; omega, by have := blk_lt hH12.2.2.2.2.2; omega⟩, by have := hH12.2.2.2.2.1; omega, Below.size hH12.2.2.2.1, by have := blk_lt mb812.out; omega⟩
            refine hK.out _ _ ⟨Blk.below hH12.1 NB13.out, Blk.below hH12.2.1 NB13.out, range_below hH12.2.2.1.out NB13.out hH12.2.2.2.2.1, below_then hH12.2.2.2.1 NB13.out, Nat.lt_of_lt_of_le hH12.2.2.2.2.1 (Below.size NB13.out), Blk.below hH12.2.2.2.2.2 NB13.out⟩ (fun hH13 => ?_)
            clear hK K hH12 NB13 mb812
            try simp only [Act.put, List.setIfInBounds_toArray, List.set_cons_zero, List.set_cons_succ]
            generalize v12.alloc (.cells #[.int .u64 0, .int .u64 0, .int .u64 0, .int .u64 0, .int .i64 0, .int .u64 0, .bool false, .int .u64 0, .int .i64 0, .int .u64 0, .int .u64 0, .int .u64 0, .int .u64 0] 28) = v13 at hH13 n13 mb813 ⊢
            generalize v12.heap.size = b7 at n13 N13 ⊢
            have Qb7 : Hid _ := N13
            have P7 := Qb7.out
            have P8 := Qb8.out
            obtain ⟨j1, j2, j3, j4, j5, j6⟩ := hH13
            have i0 := (show (fun cw => Blk cw w.heap.size [.int .u64 r0, .int .u64 r1, .int .u64 r2, .int .u64 r3, .int .i64 t, .int .u64 en, .bool false, .int .u64 a, .int .i64 c, .int .u64 s0, .int .u64 s1, .int .u64 s2, .int .u64 s3] 28 ∧ Blk cw bt [.int .u64 x0, .int .u64 x1, .int .u64 x2, .int .u64 x3, .int .i64 tau, .int .u64 en, .bool true, .int .u64 fa, .int .i64 fc, .int .u64 r0, .int .u64 r1, .int .u64 r2, .int .u64 r3] 28 ∧ Hid (cw.rangeAt bq (oq + k * 8) [.int .i64 kd, .int .i64 op, .int .i64 a1, .int .i64 b, .int .i64 d, .int .u64 x, .int .u64 ga, .int .i64 gc]) ∧ Below w.heap.size w cw ∧ bq < cw.heap.size ∧ Blk cw (w.heap.size + 1) [.int .u64 fa, .int .i64 fc] 26) v13 from ⟨j1, j2, j3, j4, j5, j6⟩)
            refine wpAnyH_ready (rs := [13]) (by kernel_rfl) (by simp) ?_
            refine AllReadyH.cons (o := ⟨none, .store 28 (.tmp 10) (.tmp 70), _, _, _, none⟩) rfl (fun K hK => ?_) AllReadyH.nil
            refine wanted_mp rfl ?_
            have th : v13.there b7 0 13 := Blk.there n13.out
            refine wp_store_mid _ _ _ rfl b7 0 #[.int .u64 y0, .int .u64 y1, .int .u64 y2, .int .u64 y3, .int .i64 ty, .int .u64 en, .bool true, .int .u64 fa, .int .i64 fc, .int .u64 r0, .int .u64 r1, .int .u64 r2, .int .u64 r3] rfl rfl th st_info (by simp [Value.oneCell']) ?_
            refine hK.out _ _ ?_ (fun i1 => ?_)
            · exact ⟨Blk.scs j1 (by omega) _ 0, Blk.scs j2 (by omega) _ 0, World.rangeAt_setCells_apart j3.out _ 0 _ (Or.inl (by omega)), below_scs j4 (by omega) _ 0, by rw [size_scs]; exact j5, Blk.scs j6 (by omega) _ 0⟩
            clear hK K i0 th
            try simp only [Act.put, List.setIfInBounds_toArray, List.set_cons_zero, List.set_cons_succ]
            simp only [List.toList_toArray] at i1 ⊢
            have Fb7 : Hid (Blk (v13.setCells b7 0 [.int .u64 y0, .int .u64 y1, .int .u64 y2, .int .u64 y3, .int .i64 ty, .int .u64 en, .bool true, .int .u64 fa, .int .i64 fc, .int .u64 r0, .int .u64 r1, .int .u64 r2, .int .u64 r3]) b7 [.int .u64 y0, .int .u64 y1, .int .u64 y2, .int .u64 y3, .int .i64 ty, .int .u64 en, .bool true, .int .u64 fa, .int .i64 fc, .int .u64 r0, .int .u64 r1, .int .u64 r2, .int .u64 r3] 28) := Blk.scsame n13.out _ 0
            have F2 := Blk.scs (c := b7) mb813.out (by omega) [.int .u64 y0, .int .u64 y1, .int .u64 y2, .int .u64 y3, .int .i64 ty, .int .u64 en, .bool true, .int .u64 fa, .int .i64 fc, .int .u64 r0, .int .u64 r1, .int .u64 r2, .int .u64 r3] 0
            have F2 : Hid _ := F2
            generalize v13.setCells b7 0 [.int .u64 y0, .int .u64 y1, .int .u64 y2, .int .u64 y3, .int .i64 ty, .int .u64 en, .bool true, .int .u64 fa, .int .i64 fc, .int .u64 r0, .int .u64 r1, .int .u64 r2, .int .u64 r3] = X1 at i1 Fb7 F2 ⊢
            clear j1 j2 j3 j4 j5 j6 n13 mb813
            obtain ⟨j1, j2, j3, j4, j5, j6⟩ := i1
            have G8 := F2
            clear F2
            have i2 := (show (fun cw => Blk cw w.heap.size [.int .u64 r0, .int .u64 r1, .int .u64 r2, .int .u64 r3, .int .i64 t, .int .u64 en, .bool false, .int .u64 a, .int .i64 c, .int .u64 s0, .int .u64 s1, .int .u64 s2, .int .u64 s3] 28 ∧ Blk cw bt [.int .u64 x0, .int .u64 x1, .int .u64 x2, .int .u64 x3, .int .i64 tau, .int .u64 en, .bool true, .int .u64 fa, .int .i64 fc, .int .u64 r0, .int .u64 r1, .int .u64 r2, .int .u64 r3] 28 ∧ Hid (cw.rangeAt bq (oq + k * 8) [.int .i64 kd, .int .i64 op, .int .i64 a1, .int .i64 b, .int .i64 d, .int .u64 x, .int .u64 ga, .int .i64 gc]) ∧ Below w.heap.size w cw ∧ bq < cw.heap.size ∧ Blk cw (w.heap.size + 1) [.int .u64 fa, .int .i64 fc] 26) X1 from ⟨j1, j2, j3, j4, j5, j6⟩)
            refine wpAnyH_ready (rs := [14]) (by kernel_rfl) (by simp) ?_
            refine AllReadyH.cons (o := ⟨none, .store 31 (.tmp 11) (.tmp 71), _, _, _, none⟩) rfl (fun K hK => ?_) AllReadyH.nil
            refine wanted_mp rfl ?_
            have th : X1.there b8 0 13 := Blk.there G8.out
            refine wp_store_mid _ _ _ rfl b8 0 #[.int .u64 q0, .int .u64 q1, .int .u64 q2, .int .u64 q3, .int .i64 q4, .int .u64 q5, .bool q6, .int .u64 q7, .int .i64 q8, .int .u64 q9, .int .u64 q10, .int .u64 q11, .int .u64 q12] rfl rfl th sx_info (by simp [Value.oneCell']) ?_
            refine hK.out _ _ ?_ (fun i3 => ?_)
            · exact ⟨Blk.scs j1 (by omega) _ 0, Blk.scs j2 (by omega) _ 0, World.rangeAt_setCells_apart j3.out _ 0 _ (Or.inl (by omega)), below_scs j4 (by omega) _ 0, by rw [size_scs]; exact j5, Blk.scs j6 (by omega) _ 0⟩
            clear hK K i2 th
            try simp only [Act.put, List.setIfInBounds_toArray, List.set_cons_zero, List.set_cons_succ]
            simp only [List.toList_toArray] at i3 ⊢
            have Fb8 : Hid (Blk (X1.setCells b8 0 [.int .u64 q0, .int .u64 q1, .int .u64 q2, .int .u64 q3, .int .i64 q4, .int .u64 q5, .bool q6, .int .u64 q7, .int .i64 q8, .int .u64 q9, .int .u64 q10, .int .u64 q11, .int .u64 q12]) b8 [.int .u64 q0, .int .u64 q1, .int .u64 q2, .int .u64 q3, .int .i64 q4, .int .u64 q5, .bool q6, .int .u64 q7, .int .i64 q8, .int .u64 q9, .int .u64 q10, .int .u64 q11, .int .u64 q12] 31) := Blk.scsame G8.out _ 0
            have F2 := Blk.scs (c := b8) Fb7.out (by omega) [.int .u64 q0, .int .u64 q1, .int .u64 q2, .int .u64 q3, .int .i64 q4, .int .u64 q5, .bool q6, .int .u64 q7, .int .i64 q8, .int .u64 q9, .int .u64 q10, .int .u64 q11, .int .u64 q12] 0
            have F2 : Hid _ := F2
            generalize X1.setCells b8 0 [.int .u64 q0, .int .u64 q1, .int .u64 q2, .int .u64 q3, .int .i64 q4, .int .u64 q5, .bool q6, .int .u64 q7, .int .i64 q8, .int .u64 q9, .int .u64 q10, .int .u64 q11, .int .u64 q12] = X2 at i3 Fb8 F2 ⊢
            clear j1 j2 j3 j4 j5 j6 G8 Fb7
            obtain ⟨j1, j2, j3, j4, j5, j6⟩ := i3
            have i3 := (show (fun cw => Blk cw w.heap.size [.int .u64 r0, .int .u64 r1, .int .u64 r2, .int .u64 r3, .int .i64 t, .int .u64 en, .bool false, .int .u64 a, .int .i64 c, .int .u64 s0, .int .u64 s1, .int .u64 s2, .int .u64 s3] 28 ∧ Blk cw bt [.int .u64 x0, .int .u64 x1, .int .u64 x2, .int .u64 x3, .int .i64 tau, .int .u64 en, .bool true, .int .u64 fa, .int .i64 fc, .int .u64 r0, .int .u64 r1, .int .u64 r2, .int .u64 r3] 28 ∧ Hid (cw.rangeAt bq (oq + k * 8) [.int .i64 kd, .int .i64 op, .int .i64 a1, .int .i64 b, .int .i64 d, .int .u64 x, .int .u64 ga, .int .i64 gc]) ∧ Below w.heap.size w cw ∧ bq < cw.heap.size ∧ Blk cw (w.heap.size + 1) [.int .u64 fa, .int .i64 fc] 26) X2 from ⟨j1, j2, j3, j4, j5, j6⟩)
            refine wpAnyH_take (i := 15) (oi := ⟨some 12, _, _, _, _, none⟩) (v := ?_) rfl (by kernel_rfl) (by kernel_rfl) (by kernel_rfl) (fun _ _ _ h => h) (Or.inl ⟨by rfl, ?_⟩) (by assumption) ?_
            rotate_left
            · intro w hSw; (try dsimp only at hSw); go_simp; (try with_reducible rfl)
            try simp only [Act.put, List.setIfInBounds_toArray, List.set_cons_zero, List.set_cons_succ]
            have W1 : Hid (Blk X2 w.heap.size [.int .u64 r0, .int .u64 r1, .int .u64 r2, .int .u64 r3, .int .i64 t, .int .u64 en, .bool false, .int .u64 a, .int .i64 c, .int .u64 s0, .int .u64 s1, .int .u64 s2, .int .u64 s3] 28) := j1
            have W2 : Hid (Blk X2 bt [.int .u64 x0, .int .u64 x1, .int .u64 x2, .int .u64 x3, .int .i64 tau, .int .u64 en, .bool true, .int .u64 fa, .int .i64 fc, .int .u64 r0, .int .u64 r1, .int .u64 r2, .int .u64 r3] 28) := j2
            have W3 : Hid (Below w.heap.size w X2) := j4
            have W4 : Hid (Blk X2 (w.heap.size + 1) [.int .u64 fa, .int .i64 fc] 26) := j6
            clear j1 j2 j3 j4 j5 j6 i3
            refine wpAnyH_done (by kernel_rfl) ?_ _
            refine NoPanic.normal ?_
            try go_wp2_with fail
            go_meet
            exact ⟨b7, b8, bz, rfl, rfl, rfl, F2, W1, W2, W3, W4, ⟨P7.1.1, P7.1.2.1, P7.1.2.2⟩⟩
          refine AllReadyH.cons (o := ⟨some 10, _, _, _, _, none⟩) rfl (fun K hK => ?_) AllReadyH.nil
          go_simp
          have NB14 : Hid (Below v11.heap.size v11 (v11.alloc (.cells #[.int .u64 0, .int .u64 0, .int .u64 0, .int .u64 0, .int .i64 0, .int .u64 0, .bool false, .int .u64 0, .int .i64 0, .int .u64 0, .int .u64 0, .int .u64 0, .int .u64 0] 28))) := Go.Joins.below_alloc1 _ _
          have mb814 := Blk.below n11.out NB14.out
          have mb814 : Hid _ := mb814
          have n14 : Hid (Blk (v11.alloc (.cells #[.int .u64 0, .int .u64 0, .int .u64 0, .int .u64 0, .int .i64 0, .int .u64 0, .bool false, .int .u64 0, .int .i64 0, .int .u64 0, .int .u64 0, .int .u64 0, .int .u64 0] 28)) v11.heap.size [.int .u64 0, .int .u64 0, .int .u64 0, .int .u64 0, .int .i64 0, .int .u64 0, .bool false, .int .u64 0, .int .i64 0, .int .u64 0, .int .u64 0, .int .u64 0, .int .u64 0] 28) := Blk.made _ _ _
          have N14 : Hid ((v11.heap.size ≠ w.heap.size ∧ v11.heap.size ≠ bt ∧ v11.heap.size ≠ w.heap.size + 1) ∧ v11.heap.size ≠ bq ∧ w.heap.size ≤ v11.heap.size ∧ v11.heap.size ≠ b8) := ⟨⟨by have := blk_lt hH11.1; omega, by have := blk_lt hH11.2.1; omega, by have := blk_lt hH11.2.2.2.2.2; omega⟩, by have := hH11.2.2.2.2.1; omega, Below.size hH11.2.2.2.1, by have := blk_lt n11.out; omega⟩
          refine hK.out _ _ ⟨Blk.below hH11.1 NB14.out, Blk.below hH11.2.1 NB14.out, range_below hH11.2.2.1.out NB14.out hH11.2.2.2.2.1, below_then hH11.2.2.2.1 NB14.out, Nat.lt_of_lt_of_le hH11.2.2.2.2.1 (Below.size NB14.out), Blk.below hH11.2.2.2.2.2 NB14.out⟩ (fun hH14 => ?_)
          clear hK K hH11 NB14 n11
          try simp only [Act.put, List.setIfInBounds_toArray, List.set_cons_zero, List.set_cons_succ]
          generalize v11.alloc (.cells #[.int .u64 0, .int .u64 0, .int .u64 0, .int .u64 0, .int .i64 0, .int .u64 0, .bool false, .int .u64 0, .int .i64 0, .int .u64 0, .int .u64 0, .int .u64 0, .int .u64 0] 28) = v14 at hH14 n14 mb814 ⊢
          generalize v11.heap.size = b7 at n14 N14 ⊢
          have Qb7 : Hid _ := N14
          refine wpAnyH_ready (rs := [6]) (by kernel_rfl) (by simp) ?_
          refine AllReadyH.cons (o := ⟨some 69, _, _, _, _, none⟩) rfl (fun K hK => ?_) AllReadyH.nil
          go_simp
          go_wp2_with (go_at_call 9; refine (CD.out _).mono ?_; rintro e v15 ⟨rfl, hb⟩)
          have mb815 : Hid (Blk v15 b8 [.int .u64 0, .int .u64 0, .int .u64 0, .int .u64 0, .int .i64 0, .int .u64 0, .bool false, .int .u64 0, .int .i64 0, .int .u64 0, .int .u64 0, .int .u64 0, .int .u64 0] 31) := Blk.below mb814.out hb
          have mb715 : Hid (Blk v15 b7 [.int .u64 0, .int .u64 0, .int .u64 0, .int .u64 0, .int .i64 0, .int .u64 0, .bool false, .int .u64 0, .int .i64 0, .int .u64 0, .int .u64 0, .int .u64 0, .int .u64 0] 28) := Blk.below n14.out hb
          refine hK.out _ _ ⟨Blk.below hH14.1 hb, Blk.below hH14.2.1 hb, range_below hH14.2.2.1.out hb hH14.2.2.2.2.1, below_then hH14.2.2.2.1 hb, Nat.lt_of_lt_of_le hH14.2.2.2.2.1 (Below.size hb), Blk.below hH14.2.2.2.2.2 hb⟩ (fun hH15 => ?_)
          clear hK K hb hH14 mb814 n14
          try simp only [Act.put, List.setIfInBounds_toArray, List.set_cons_zero, List.set_cons_succ]
          refine wpAnyH_take (i := 7) (oi := ⟨some 62, _, _, _, _, none⟩) (v := ?_) rfl (by kernel_rfl) (by kernel_rfl) (by kernel_rfl) (fun _ _ _ h => h) (Or.inl ⟨by rfl, ?_⟩) (by assumption) ?_
          rotate_left
          · intro w hSw; (try dsimp only at hSw); go_simp; (try with_reducible rfl)
          try simp only [Act.put, List.setIfInBounds_toArray, List.set_cons_zero, List.set_cons_succ]
          refine wpAnyH_take (i := 8) (oi := ⟨some 70, _, _, _, _, none⟩) (v := ?_) rfl (by kernel_rfl) (by kernel_rfl) (by kernel_rfl) (fun _ _ _ h => h) (Or.inl ⟨by rfl, ?_⟩) (by assumption) ?_
          rotate_left
          · intro w hSw; (try dsimp only at hSw); go_simp; (try with_reducible rfl)
          try simp only [Act.put, List.setIfInBounds_toArray, List.set_cons_zero, List.set_cons_succ]
          refine wpAnyH_take (i := 9) (oi := ⟨some 71, _, _, _, _, none⟩) (v := ?_) rfl (by kernel_rfl) (by kernel_rfl) (by kernel_rfl) (fun _ _ _ h => h) (Or.inl ⟨by rfl, ?_⟩) (by assumption) ?_
          rotate_left
          · intro w hSw; (try dsimp only at hSw); go_simp; (try with_reducible rfl)
          try simp only [Act.put, List.setIfInBounds_toArray, List.set_cons_zero, List.set_cons_succ]
          refine wpAnyH_take (i := 10) (oi := ⟨some 72, _, _, _, _, none⟩) (v := ?_) rfl (by kernel_rfl) (by kernel_rfl) (by kernel_rfl) (fun _ _ _ h => h) (Or.inl ⟨by rfl, ?_⟩) (by assumption) ?_
          rotate_left
          · intro w hSw; (try dsimp only at hSw); go_simp; (try with_reducible rfl)
          try simp only [Act.put, List.setIfInBounds_toArray, List.set_cons_zero, List.set_cons_succ]
          have P7 := Qb7.out
          have P8 := Qb8.out
          obtain ⟨j1, j2, j3, j4, j5, j6⟩ := hH15
          have i0 := (show (fun cw => Blk cw w.heap.size [.int .u64 r0, .int .u64 r1, .int .u64 r2, .int .u64 r3, .int .i64 t, .int .u64 en, .bool false, .int .u64 a, .int .i64 c, .int .u64 s0, .int .u64 s1, .int .u64 s2, .int .u64 s3] 28 ∧ Blk cw bt [.int .u64 x0, .int .u64 x1, .int .u64 x2, .int .u64 x3, .int .i64 tau, .int .u64 en, .bool true, .int .u64 fa, .int .i64 fc, .int .u64 r0, .int .u64 r1, .int .u64 r2, .int .u64 r3] 28 ∧ Hid (cw.rangeAt bq (oq + k * 8) [.int .i64 kd, .int .i64 op, .int .i64 a1, .int .i64 b, .int .i64 d, .int .u64 x, .int .u64 ga, .int .i64 gc]) ∧ Below w.heap.size w cw ∧ bq < cw.heap.size ∧ Blk cw (w.heap.size + 1) [.int .u64 fa, .int .i64 fc] 26) v15 from ⟨j1, j2, j3, j4, j5, j6⟩)
          refine wpAnyH_ready (rs := [13]) (by kernel_rfl) (by simp) ?_
          refine AllReadyH.cons (o := ⟨none, .store 28 (.tmp 10) (.tmp 70), _, _, _, none⟩) rfl (fun K hK => ?_) AllReadyH.nil
          refine wanted_mp rfl ?_
          have th : v15.there b7 0 13 := Blk.there mb715.out
          refine wp_store_mid _ _ _ rfl b7 0 #[.int .u64 y0, .int .u64 y1, .int .u64 y2, .int .u64 y3, .int .i64 ty, .int .u64 en, .bool true, .int .u64 fa, .int .i64 fc, .int .u64 r0, .int .u64 r1, .int .u64 r2, .int .u64 r3] rfl rfl th st_info (by simp [Value.oneCell']) ?_
          refine hK.out _ _ ?_ (fun i1 => ?_)
          · exact ⟨Blk.scs j1 (by omega) _ 0, Blk.scs j2 (by omega) _ 0, World.rangeAt_setCells_apart j3.out _ 0 _ (Or.inl (by omega)), below_scs j4 (by omega) _ 0, by rw [size_scs]; exact j5, Blk.scs j6 (by omega) _ 0⟩
          clear hK K i0 th
          try simp only [Act.put, List.setIfInBounds_toArray, List.set_cons_zero, List.set_cons_succ]
          simp only [List.toList_toArray] at i1 ⊢
          have Fb7 : Hid (Blk (v15.setCells b7 0 [.int .u64 y0, .int .u64 y1, .int .u64 y2, .int .u64 y3, .int .i64 ty, .int .u64 en, .bool true, .int .u64 fa, .int .i64 fc, .int .u64 r0, .int .u64 r1, .int .u64 r2, .int .u64 r3]) b7 [.int .u64 y0, .int .u64 y1, .int .u64 y2, .int .u64 y3, .int .i64 ty, .int .u64 en, .bool true, .int .u64 fa, .int .i64 fc, .int .u64 r0, .int .u64 r1, .int .u64 r2, .int .u64 r3] 28) := Blk.scsame mb715.out _ 0
          have F2 := Blk.scs (c := b7) mb815.out (by omega) [.int .u64 y0, .int .u64 y1, .int .u64 y2, .int .u64 y3, .int .i64 ty, .int .u64 en, .bool true, .int .u64 fa, .int .i64 fc, .int .u64 r0, .int .u64 r1, .int .u64 r2, .int .u64 r3] 0
          have F2 : Hid _ := F2
          generalize v15.setCells b7 0 [.int .u64 y0, .int .u64 y1, .int .u64 y2, .int .u64 y3, .int .i64 ty, .int .u64 en, .bool true, .int .u64 fa, .int .i64 fc, .int .u64 r0, .int .u64 r1, .int .u64 r2, .int .u64 r3] = X1 at i1 Fb7 F2 ⊢
          clear j1 j2 j3 j4 j5 j6 mb715 mb815
          obtain ⟨j1, j2, j3, j4, j5, j6⟩ := i1
          have G8 := F2
          clear F2
          have i2 := (show (fun cw => Blk cw w.heap.size [.int .u64 r0, .int .u64 r1, .int .u64 r2, .int .u64 r3, .int .i64 t, .int .u64 en, .bool false, .int .u64 a, .int .i64 c, .int .u64 s0, .int .u64 s1, .int .u64 s2, .int .u64 s3] 28 ∧ Blk cw bt [.int .u64 x0, .int .u64 x1, .int .u64 x2, .int .u64 x3, .int .i64 tau, .int .u64 en, .bool true, .int .u64 fa, .int .i64 fc, .int .u64 r0, .int .u64 r1, .int .u64 r2, .int .u64 r3] 28 ∧ Hid (cw.rangeAt bq (oq + k * 8) [.int .i64 kd, .int .i64 op, .int .i64 a1, .int .i64 b, .int .i64 d, .int .u64 x, .int .u64 ga, .int .i64 gc]) ∧ Below w.heap.size w cw ∧ bq < cw.heap.size ∧ Blk cw (w.heap.size + 1) [.int .u64 fa, .int .i64 fc] 26) X1 from ⟨j1, j2, j3, j4, j5, j6⟩)
          refine wpAnyH_ready (rs := [14]) (by kernel_rfl) (by simp) ?_
          refine AllReadyH.cons (o := ⟨none, .store 31 (.tmp 11) (.tmp 71), _, _, _, none⟩) rfl (fun K hK => ?_) AllReadyH.nil
          refine wanted_mp rfl ?_
          have th : X1.there b8 0 13 := Blk.there G8.out
          refine wp_store_mid _ _ _ rfl b8 0 #[.int .u64 q0, .int .u64 q1, .int .u64 q2, .int .u64 q3, .int .i64 q4, .int .u64 q5, .bool q6, .int .u64 q7, .int .i64 q8, .int .u64 q9, .int .u64 q10, .int .u64 q11, .int .u64 q12] rfl rfl th sx_info (by simp [Value.oneCell']) ?_
          refine hK.out _ _ ?_ (fun i3 => ?_)
          · exact ⟨Blk.scs j1 (by omega) _ 0, Blk.scs j2 (by omega) _ 0, World.rangeAt_setCells_apart j3.out _ 0 _ (Or.inl (by omega)), below_scs j4 (by omega) _ 0, by rw [size_scs]; exact j5, Blk.scs j6 (by omega) _ 0⟩
          clear hK K i2 th
          try simp only [Act.put, List.setIfInBounds_toArray, List.set_cons_zero, List.set_cons_succ]
          simp only [List.toList_toArray] at i3 ⊢
          have Fb8 : Hid (Blk (X1.setCells b8 0 [.int .u64 q0, .int .u64 q1, .int .u64 q2, .int .u64 q3, .int .i64 q4, .int .u64 q5, .bool q6, .int .u64 q7, .int .i64 q8, .int .u64 q9, .int .u64 q10, .int .u64 q11, .int .u64 q12]) b8 [.int .u64 q0, .int .u64 q1, .int .u64 q2, .int .u64 q3, .int .i64 q4, .int .u64 q5, .bool q6, .int .u64 q7, .int .i64 q8, .int .u64 q9, .int .u64 q10, .int .u64 q11, .int .u64 q12] 31) := Blk.scsame G8.out _ 0
          have F2 := Blk.scs (c := b8) Fb7.out (by omega) [.int .u64 q0, .int .u64 q1, .int .u64 q2, .int .u64 q3, .int .i64 q4, .int .u64 q5, .bool q6, .int .u64 q7, .int .i64 q8, .int .u64 q9, .int .u64 q10, .int .u64 q11, .int .u64 q12] 0
          have F2 : Hid _ := F2
          generalize X1.setCells b8 0 [.int .u64 q0, .int .u64 q1, .int .u64 q2, .int .u64 q3, .int .i64 q4, .int .u64 q5, .bool q6, .int .u64 q7, .int .i64 q8, .int .u64 q9, .int .u64 q10, .int .u64 q11, .int .u64 q12] = X2 at i3 Fb8 F2 ⊢
          clear j1 j2 j3 j4 j5 j6 G8 Fb7
          obtain ⟨j1, j2, j3, j4, j5, j6⟩ := i3
          have i3 := (show (fun cw => Blk cw w.heap.size [.int .u64 r0, .int .u64 r1, .int .u64 r2, .int .u64 r3, .int .i64 t, .int .u64 en, .bool false, .int .u64 a, .int .i64 c, .int .u64 s0, .int .u64 s1, .int .u64 s2, .int .u64 s3] 28 ∧ Blk cw bt [.int .u64 x0, .int .u64 x1, .int .u64 x2, .int .u64 x3, .int .i64 tau, .int .u64 en, .bool true, .int .u64 fa, .int .i64 fc, .int .u64 r0, .int .u64 r1, .int .u64 r2, .int .u64 r3] 28 ∧ Hid (cw.rangeAt bq (oq + k * 8) [.int .i64 kd, .int .i64 op, .int .i64 a1, .int .i64 b, .int .i64 d, .int .u64 x, .int .u64 ga, .int .i64 gc]) ∧ Below w.heap.size w cw ∧ bq < cw.heap.size ∧ Blk cw (w.heap.size + 1) [.int .u64 fa, .int .i64 fc] 26) X2 from ⟨j1, j2, j3, j4, j5, j6⟩)
          refine wpAnyH_take (i := 15) (oi := ⟨some 12, _, _, _, _, none⟩) (v := ?_) rfl (by kernel_rfl) (by kernel_rfl) (by kernel_rfl) (fun _ _ _ h => h) (Or.inl ⟨by rfl, ?_⟩) (by assumption) ?_
          rotate_left
          · intro w hSw; (try dsimp only at hSw); go_simp; (try with_reducible rfl)
          try simp only [Act.put, List.setIfInBounds_toArray, List.set_cons_zero, List.set_cons_succ]
          have W1 : Hid (Blk X2 w.heap.size [.int .u64 r0, .int .u64 r1, .int .u64 r2, .int .u64 r3, .int .i64 t, .int .u64 en, .bool false, .int .u64 a, .int .i64 c, .int .u64 s0, .int .u64 s1, .int .u64 s2, .int .u64 s3] 28) := j1
          have W2 : Hid (Blk X2 bt [.int .u64 x0, .int .u64 x1, .int .u64 x2, .int .u64 x3, .int .i64 tau, .int .u64 en, .bool true, .int .u64 fa, .int .i64 fc, .int .u64 r0, .int .u64 r1, .int .u64 r2, .int .u64 r3] 28) := j2
          have W3 : Hid (Below w.heap.size w X2) := j4
          have W4 : Hid (Blk X2 (w.heap.size + 1) [.int .u64 fa, .int .i64 fc] 26) := j6
          clear j1 j2 j3 j4 j5 j6 i3
          refine wpAnyH_done (by kernel_rfl) ?_ _
          refine NoPanic.normal ?_
          try go_wp2_with fail
          go_meet
          exact ⟨b7, b8, bz, rfl, rfl, rfl, F2, W1, W2, W3, W4, ⟨P7.1.1, P7.1.2.1, P7.1.2.2⟩⟩
        case rest =>
          clear Zs Zt Zf ACT BW lq2 CD DOES HA
          obtain ⟨b7, b8, bz, rfl, rfl, rfl, F7, Z1, Z2, BW2, Z4, NN⟩ := hcut
          have N7 := NN.out
          have NX1 := NX.out
          go_upto_region 9 with fail
          refine wp_region_lit ?_
          refine load_pat b7 0 [.int .u64 y0, .int .u64 y1, .int .u64 y2, .int .u64 y3, .int .i64 ty, .int .u64 en, .bool true, .int .u64 fa, .int .i64 fc, .int .u64 r0, .int .u64 r1, .int .u64 r2, .int .u64 r3] _ rfl (Blk.range F7.out) Try.underlying28 rfl st_info ?_
          have th : wc.there bt 0 13 := Blk.there Z2.out
          refine store_pat bt 0 #[.int .u64 y0, .int .u64 y1, .int .u64 y2, .int .u64 y3, .int .i64 ty, .int .u64 en, .bool true, .int .u64 fa, .int .i64 fc, .int .u64 r0, .int .u64 r1, .int .u64 r2, .int .u64 r3] rfl rfl th st_info (by simp [Value.oneCell']) ?_
          clear th
          simp only [List.toList_toArray]
          have D1 : Hid (Blk (wc.setCells bt 0 [.int .u64 y0, .int .u64 y1, .int .u64 y2, .int .u64 y3, .int .i64 ty, .int .u64 en, .bool true, .int .u64 fa, .int .i64 fc, .int .u64 r0, .int .u64 r1, .int .u64 r2, .int .u64 r3]) bt [.int .u64 y0, .int .u64 y1, .int .u64 y2, .int .u64 y3, .int .i64 ty, .int .u64 en, .bool true, .int .u64 fa, .int .i64 fc, .int .u64 r0, .int .u64 r1, .int .u64 r2, .int .u64 r3] 28) := Blk.scsame Z2.out _ 0
          have D2 : Hid (Blk (wc.setCells bt 0 [.int .u64 y0, .int .u64 y1, .int .u64 y2, .int .u64 y3, .int .i64 ty, .int .u64 en, .bool true, .int .u64 fa, .int .i64 fc, .int .u64 r0, .int .u64 r1, .int .u64 r2, .int .u64 r3]) w.heap.size [.int .u64 r0, .int .u64 r1, .int .u64 r2, .int .u64 r3, .int .i64 t, .int .u64 en, .bool false, .int .u64 a, .int .i64 c, .int .u64 s0, .int .u64 s1, .int .u64 s2, .int .u64 s3] 28) := Blk.scs Z1.out (by omega) _ 0
          have D3 : Hid (Blk (wc.setCells bt 0 [.int .u64 y0, .int .u64 y1, .int .u64 y2, .int .u64 y3, .int .i64 ty, .int .u64 en, .bool true, .int .u64 fa, .int .i64 fc, .int .u64 r0, .int .u64 r1, .int .u64 r2, .int .u64 r3]) (w.heap.size + 1) [.int .u64 fa, .int .i64 fc] 26) := Blk.scs Z4.out (by omega) _ 0
          have D4 : Hid (Below w.heap.size w (wc.setCells bt 0 [.int .u64 y0, .int .u64 y1, .int .u64 y2, .int .u64 y3, .int .i64 ty, .int .u64 en, .bool true, .int .u64 fa, .int .i64 fc, .int .u64 r0, .int .u64 r1, .int .u64 r2, .int .u64 r3])) := below_scs BW2.out (by omega) _ 0
          generalize wc.setCells bt 0 [.int .u64 y0, .int .u64 y1, .int .u64 y2, .int .u64 y3, .int .i64 ty, .int .u64 en, .bool true, .int .u64 fa, .int .i64 fc, .int .u64 r0, .int .u64 r1, .int .u64 r2, .int .u64 r3] = X9 at D1 D2 D3 D4 ⊢
          clear F7 Z1 Z2 Z4 BW2 NN N7
          go_wp2_with fail
          go_roundw
          case rel => exact ⟨k + 1, y0, y1, y2, y3, ty, by omega, by omega, by go_num, HW, D2, D3, D1, D4⟩
          case measure => simp [intOf]; omega
      · have c4 : (kd == 4) = false := by simp [kd5]
        have c5 : (kd == 5) = true := by simp [kd5]
        clear kd5
        go_upto_region 8 with fail
        go_cut [10, 11, 12] (fun va vb vc W => ∃ (b7 b8 : Nat) (bz : Bool), va = .pointer (some ⟨b7, 0, none⟩) ∧ vb = .pointer (some ⟨b8, 0, none⟩) ∧ vc = .bool bz ∧ Hid (Blk W b7 [.int .u64 y0, .int .u64 y1, .int .u64 y2, .int .u64 y3, .int .i64 ty, .int .u64 en, .bool true, .int .u64 fa, .int .i64 fc, .int .u64 r0, .int .u64 r1, .int .u64 r2, .int .u64 r3] 28) ∧ Hid (Blk W w.heap.size [.int .u64 r0, .int .u64 r1, .int .u64 r2, .int .u64 r3, .int .i64 t, .int .u64 en, .bool false, .int .u64 a, .int .i64 c, .int .u64 s0, .int .u64 s1, .int .u64 s2, .int .u64 s3] 28) ∧ Hid (Blk W bt [.int .u64 x0, .int .u64 x1, .int .u64 x2, .int .u64 x3, .int .i64 tau, .int .u64 en, .bool true, .int .u64 fa, .int .i64 fc, .int .u64 r0, .int .u64 r1, .int .u64 r2, .int .u64 r3] 28) ∧ Hid (Below w.heap.size w W) ∧ Hid (Blk W (w.heap.size + 1) [.int .u64 fa, .int .i64 fc] 26) ∧ Hid (b7 ≠ w.heap.size ∧ b7 ≠ bt ∧ b7 ≠ w.heap.size + 1))
        case first =>
          refine wp_region_noPanic ?_
          refine wp_region_held_drew (S := fun cw => Blk cw w.heap.size [.int .u64 r0, .int .u64 r1, .int .u64 r2, .int .u64 r3, .int .i64 t, .int .u64 en, .bool false, .int .u64 a, .int .i64 c, .int .u64 s0, .int .u64 s1, .int .u64 s2, .int .u64 s3] 28 ∧ Blk cw bt [.int .u64 x0, .int .u64 x1, .int .u64 x2, .int .u64 x3, .int .i64 tau, .int .u64 en, .bool true, .int .u64 fa, .int .i64 fc, .int .u64 r0, .int .u64 r1, .int .u64 r2, .int .u64 r3] 28 ∧ Hid (cw.rangeAt bq (oq + k * 8) [.int .i64 kd, .int .i64 op, .int .i64 a1, .int .i64 b, .int .i64 d, .int .u64 x, .int .u64 ga, .int .i64 gc]) ∧ Below w.heap.size w cw ∧ bq < cw.heap.size ∧ Blk cw (w.heap.size + 1) [.int .u64 fa, .int .i64 fc] 26) (by kernel_rfl) ?_ (fun hH => ?_)
          · exact ⟨Zs.out, Zt.out, ACT.out, below_drew BW.out, lq2, Zf.out⟩
          clear Zs Zt Zf ACT BW lq2
          generalize wr.drew = v0 at hH ⊢
          refine wpAnyH_take (i := 0) (oi := ⟨some 63, _, _, _, _, none⟩) (v := .agg #[.int .u64 x0, .int .u64 x1, .int .u64 x2, .int .u64 x3, .int .i64 tau, .int .u64 en, .bool true, .int .u64 fa, .int .i64 fc, .int .u64 r0, .int .u64 r1, .int .u64 r2, .int .u64 r3]) rfl (by kernel_rfl) (by kernel_rfl) (by kernel_rfl) (fun _ _ _ h => h) (yieldsIf_load_mid (by rfl) 28 _ rfl (bt) (0) rfl [.int .u64 x0, .int .u64 x1, .int .u64 x2, .int .u64 x3, .int .i64 tau, .int .u64 en, .bool true, .int .u64 fa, .int .i64 fc, .int .u64 r0, .int .u64 r1, .int .u64 r2, .int .u64 r3] _ (fun _ h => Blk.range h.2.1) Try.underlying28 rfl st_info) (by assumption) ?_
          try simp only [Act.put, List.setIfInBounds_toArray, List.set_cons_zero, List.set_cons_succ]
          refine wpAnyH_take (i := 1) (oi := ⟨some 64, _, _, _, _, none⟩) (v := ?_) rfl (by kernel_rfl) (by kernel_rfl) (by kernel_rfl) (fun _ _ _ h => h) (Or.inl ⟨by rfl, ?_⟩) (by assumption) ?_
          rotate_left
          · intro w hSw; (try dsimp only at hSw); go_simp; (try with_reducible rfl)
          try simp only [Act.put, List.setIfInBounds_toArray, List.set_cons_zero, List.set_cons_succ]
          refine wpAnyH_take (i := 2) (oi := ⟨some 65, _, _, _, _, none⟩) (v := ?_) rfl (by kernel_rfl) (by kernel_rfl) (by kernel_rfl) (fun _ _ _ h => h) (Or.inl ⟨by rfl, ?_⟩) (by assumption) ?_
          rotate_left
          · intro w hSw; (try dsimp only at hSw); go_simp; (try with_reducible rfl)
          try simp only [Act.put, List.setIfInBounds_toArray, List.set_cons_zero, List.set_cons_succ]
          refine wpAnyH_take (i := 3) (oi := ⟨some 66, _, _, _, _, none⟩) (v := ?_) rfl (by kernel_rfl) (by kernel_rfl) (by kernel_rfl) (fun _ _ _ h => h) (Or.inl ⟨by rfl, ?_⟩) (by assumption) ?_
          rotate_left
          · intro w hSw; (try dsimp only at hSw); go_simp; (try with_reducible rfl)
          try simp only [Act.put, List.setIfInBounds_toArray, List.set_cons_zero, List.set_cons_succ]
          refine wpAnyH_take (i := 4) (oi := ⟨some 67, _, _, _, _, none⟩) (v := ?_) rfl (by kernel_rfl) (by kernel_rfl) (by kernel_rfl) (fun _ _ _ h => h) (Or.inl ⟨by rfl, ?_⟩) (by assumption) ?_
          rotate_left
          · intro w hSw; (try dsimp only at hSw); go_simp; (try with_reducible rfl)
          try simp only [Act.put, List.setIfInBounds_toArray, List.set_cons_zero, List.set_cons_succ]
          refine wpAnyH_take (i := 5) (oi := ⟨some 68, _, _, _, _, none⟩) (v := .agg #[.int .i64 kd, .int .i64 op, .int .i64 a1, .int .i64 b, .int .i64 d, .int .u64 x, .int .u64 ga, .int .i64 gc]) rfl (by kernel_rfl) (by kernel_rfl) (by kernel_rfl) (fun _ _ _ h => h) (yieldsIf_load_mid (by rfl) 37 _ rfl (bq) (oq + k * 8) rfl [.int .i64 kd, .int .i64 op, .int .i64 a1, .int .i64 b, .int .i64 d, .int .u64 x, .int .u64 ga, .int .i64 gc] _ (fun _ h => h.2.2.1.out) Try.underlying37 rfl ac_info) (by assumption) ?_
          try simp only [Act.put, List.setIfInBounds_toArray, List.set_cons_zero, List.set_cons_succ]
          refine wpAnyH_ready (rs := [6, 11, 12]) (by kernel_rfl) (by simp) ?_
          refine AllReadyH.cons (o := ⟨some 69, _, _, _, _, none⟩) rfl (fun K hK => ?_) ?_
          · go_simp
            go_wp2_with (go_at_call 9; refine (CD.out _).mono ?_; rintro e v1 ⟨rfl, hb⟩)
            refine hK.out _ _ ⟨Blk.below hH.1 hb, Blk.below hH.2.1 hb, range_below hH.2.2.1.out hb hH.2.2.2.2.1, below_then hH.2.2.2.1 hb, Nat.lt_of_lt_of_le hH.2.2.2.2.1 (Below.size hb), Blk.below hH.2.2.2.2.2 hb⟩ (fun hH1 => ?_)
            clear hK K hb hH 
            try simp only [Act.put, List.setIfInBounds_toArray, List.set_cons_zero, List.set_cons_succ]
            refine wpAnyH_take (i := 7) (oi := ⟨some 62, _, _, _, _, none⟩) (v := ?_) rfl (by kernel_rfl) (by kernel_rfl) (by kernel_rfl) (fun _ _ _ h => h) (Or.inl ⟨by rfl, ?_⟩) (by assumption) ?_
            rotate_left
            · intro w hSw; (try dsimp only at hSw); go_simp; (try with_reducible rfl)
            try simp only [Act.put, List.setIfInBounds_toArray, List.set_cons_zero, List.set_cons_succ]
            refine wpAnyH_take (i := 8) (oi := ⟨some 70, _, _, _, _, none⟩) (v := ?_) rfl (by kernel_rfl) (by kernel_rfl) (by kernel_rfl) (fun _ _ _ h => h) (Or.inl ⟨by rfl, ?_⟩) (by assumption) ?_
            rotate_left
            · intro w hSw; (try dsimp only at hSw); go_simp; (try with_reducible rfl)
            try simp only [Act.put, List.setIfInBounds_toArray, List.set_cons_zero, List.set_cons_succ]
            refine wpAnyH_take (i := 9) (oi := ⟨some 71, _, _, _, _, none⟩) (v := ?_) rfl (by kernel_rfl) (by kernel_rfl) (by kernel_rfl) (fun _ _ _ h => h) (Or.inl ⟨by rfl, ?_⟩) (by assumption) ?_
            rotate_left
            · intro w hSw; (try dsimp only at hSw); go_simp; (try with_reducible rfl)
            try simp only [Act.put, List.setIfInBounds_toArray, List.set_cons_zero, List.set_cons_succ]
            refine wpAnyH_take (i := 10) (oi := ⟨some 72, _, _, _, _, none⟩) (v := ?_) rfl (by kernel_rfl) (by kernel_rfl) (by kernel_rfl) (fun _ _ _ h => h) (Or.inl ⟨by rfl, ?_⟩) (by assumption) ?_
            rotate_left
            · intro w hSw; (try dsimp only at hSw); go_simp; (try with_reducible rfl)
            try simp only [Act.put, List.setIfInBounds_toArray, List.set_cons_zero, List.set_cons_succ]
            refine wpAnyH_ready (rs := [11, 12]) (by kernel_rfl) (by simp) ?_
            refine AllReadyH.cons (o := ⟨some 10, _, _, _, _, none⟩) rfl (fun K hK => ?_) ?_
            · go_simp
              have NB2 : Hid (Below v1.heap.size v1 (v1.alloc (.cells #[.int .u64 0, .int .u64 0, .int .u64 0, .int .u64 0, .int .i64 0, .int .u64 0, .bool false, .int .u64 0, .int .i64 0, .int .u64 0, .int .u64 0, .int .u64 0, .int .u64 0] 28))) := Go.Joins.below_alloc1 _ _
              have n2 : Hid (Blk (v1.alloc (.cells #[.int .u64 0, .int .u64 0, .int .u64 0, .int .u64 0, .int .i64 0, .int .u64 0, .bool false, .int .u64 0, .int .i64 0, .int .u64 0, .int .u64 0, .int .u64 0, .int .u64 0] 28)) v1.heap.size [.int .u64 0, .int .u64 0, .int .u64 0, .int .u64 0, .int .i64 0, .int .u64 0, .bool false, .int .u64 0, .int .i64 0, .int .u64 0, .int .u64 0, .int .u64 0, .int .u64 0] 28) := Blk.made _ _ _
              have N2 : Hid ((v1.heap.size ≠ w.heap.size ∧ v1.heap.size ≠ bt ∧ v1.heap.size ≠ w.heap.size + 1) ∧ v1.heap.size ≠ bq ∧ w.heap.size ≤ v1.heap.size) := ⟨⟨by have := blk_lt hH1.1; omega, by have := blk_lt hH1.2.1; omega, by have := blk_lt hH1.2.2.2.2.2; omega⟩, by have := hH1.2.2.2.2.1; omega, Below.size hH1.2.2.2.1⟩
              refine hK.out _ _ ⟨Blk.below hH1.1 NB2.out, Blk.below hH1.2.1 NB2.out, range_below hH1.2.2.1.out NB2.out hH1.2.2.2.2.1, below_then hH1.2.2.2.1 NB2.out, Nat.lt_of_lt_of_le hH1.2.2.2.2.1 (Below.size NB2.out), Blk.below hH1.2.2.2.2.2 NB2.out⟩ (fun hH2 => ?_)
              clear hK K hH1 NB2 
              try simp only [Act.put, List.setIfInBounds_toArray, List.set_cons_zero, List.set_cons_succ]
              generalize v1.alloc (.cells #[.int .u64 0, .int .u64 0, .int .u64 0, .int .u64 0, .int .i64 0, .int .u64 0, .bool false, .int .u64 0, .int .i64 0, .int .u64 0, .int .u64 0, .int .u64 0, .int .u64 0] 28) = v2 at hH2 n2  ⊢
              generalize v1.heap.size = b7 at n2 N2 ⊢
              have Qb7 : Hid _ := N2
              refine wpAnyH_ready (rs := [12]) (by kernel_rfl) (by simp) ?_
              refine AllReadyH.cons (o := ⟨some 11, _, _, _, _, none⟩) rfl (fun K hK => ?_) AllReadyH.nil
              go_simp
              have NB3 : Hid (Below v2.heap.size v2 (v2.alloc (.cells #[.int .u64 0, .int .u64 0, .int .u64 0, .int .u64 0, .int .i64 0, .int .u64 0, .bool false, .int .u64 0, .int .i64 0, .int .u64 0, .int .u64 0, .int .u64 0, .int .u64 0] 31))) := Go.Joins.below_alloc1 _ _
              have mb73 := Blk.below n2.out NB3.out
              have mb73 : Hid _ := mb73
              have n3 : Hid (Blk (v2.alloc (.cells #[.int .u64 0, .int .u64 0, .int .u64 0, .int .u64 0, .int .i64 0, .int .u64 0, .bool false, .int .u64 0, .int .i64 0, .int .u64 0, .int .u64 0, .int .u64 0, .int .u64 0] 31)) v2.heap.size [.int .u64 0, .int .u64 0, .int .u64 0, .int .u64 0, .int .i64 0, .int .u64 0, .bool false, .int .u64 0, .int .i64 0, .int .u64 0, .int .u64 0, .int .u64 0, .int .u64 0] 31) := Blk.made _ _ _
              have N3 : Hid ((v2.heap.size ≠ w.heap.size ∧ v2.heap.size ≠ bt ∧ v2.heap.size ≠ w.heap.size + 1) ∧ v2.heap.size ≠ bq ∧ w.heap.size ≤ v2.heap.size ∧ v2.heap.size ≠ b7) := ⟨⟨by have := blk_lt hH2.1; omega, by have := blk_lt hH2.2.1; omega, by have := blk_lt hH2.2.2.2.2.2; omega⟩, by have := hH2.2.2.2.2.1; omega, Below.size hH2.2.2.2.1, by have := blk_lt n2.out; omega⟩
              refine hK.out _ _ ⟨Blk.below hH2.1 NB3.out, Blk.below hH2.2.1 NB3.out, range_below hH2.2.2.1.out NB3.out hH2.2.2.2.2.1, below_then hH2.2.2.2.1 NB3.out, Nat.lt_of_lt_of_le hH2.2.2.2.2.1 (Below.size NB3.out), Blk.below hH2.2.2.2.2.2 NB3.out⟩ (fun hH3 => ?_)
              clear hK K hH2 NB3 n2
              try simp only [Act.put, List.setIfInBounds_toArray, List.set_cons_zero, List.set_cons_succ]
              generalize v2.alloc (.cells #[.int .u64 0, .int .u64 0, .int .u64 0, .int .u64 0, .int .i64 0, .int .u64 0, .bool false, .int .u64 0, .int .i64 0, .int .u64 0, .int .u64 0, .int .u64 0, .int .u64 0] 31) = v3 at hH3 n3 mb73 ⊢
              generalize v2.heap.size = b8 at n3 N3 ⊢
              have Qb8 : Hid _ := N3
              have P7 := Qb7.out
              have P8 := Qb8.out
              obtain ⟨j1, j2, j3, j4, j5, j6⟩ := hH3
              have i0 := (show (fun cw => Blk cw w.heap.size [.int .u64 r0, .int .u64 r1, .int .u64 r2, .int .u64 r3, .int .i64 t, .int .u64 en, .bool false, .int .u64 a, .int .i64 c, .int .u64 s0, .int .u64 s1, .int .u64 s2, .int .u64 s3] 28 ∧ Blk cw bt [.int .u64 x0, .int .u64 x1, .int .u64 x2, .int .u64 x3, .int .i64 tau, .int .u64 en, .bool true, .int .u64 fa, .int .i64 fc, .int .u64 r0, .int .u64 r1, .int .u64 r2, .int .u64 r3] 28 ∧ Hid (cw.rangeAt bq (oq + k * 8) [.int .i64 kd, .int .i64 op, .int .i64 a1, .int .i64 b, .int .i64 d, .int .u64 x, .int .u64 ga, .int .i64 gc]) ∧ Below w.heap.size w cw ∧ bq < cw.heap.size ∧ Blk cw (w.heap.size + 1) [.int .u64 fa, .int .i64 fc] 26) v3 from ⟨j1, j2, j3, j4, j5, j6⟩)
              refine wpAnyH_ready (rs := [13]) (by kernel_rfl) (by simp) ?_
              refine AllReadyH.cons (o := ⟨none, .store 28 (.tmp 10) (.tmp 70), _, _, _, none⟩) rfl (fun K hK => ?_) AllReadyH.nil
              refine wanted_mp rfl ?_
              have th : v3.there b7 0 13 := Blk.there mb73.out
              refine wp_store_mid _ _ _ rfl b7 0 #[.int .u64 y0, .int .u64 y1, .int .u64 y2, .int .u64 y3, .int .i64 ty, .int .u64 en, .bool true, .int .u64 fa, .int .i64 fc, .int .u64 r0, .int .u64 r1, .int .u64 r2, .int .u64 r3] rfl rfl th st_info (by simp [Value.oneCell']) ?_
              refine hK.out _ _ ?_ (fun i1 => ?_)
              · exact ⟨Blk.scs j1 (by omega) _ 0, Blk.scs j2 (by omega) _ 0, World.rangeAt_setCells_apart j3.out _ 0 _ (Or.inl (by omega)), below_scs j4 (by omega) _ 0, by rw [size_scs]; exact j5, Blk.scs j6 (by omega) _ 0⟩
              clear hK K i0 th
              try simp only [Act.put, List.setIfInBounds_toArray, List.set_cons_zero, List.set_cons_succ]
              simp only [List.toList_toArray] at i1 ⊢
              have Fb7 : Hid (Blk (v3.setCells b7 0 [.int .u64 y0, .int .u64 y1, .int .u64 y2, .int .u64 y3, .int .i64 ty, .int .u64 en, .bool true, .int .u64 fa, .int .i64 fc, .int .u64 r0, .int .u64 r1, .int .u64 r2, .int .u64 r3]) b7 [.int .u64 y0, .int .u64 y1, .int .u64 y2, .int .u64 y3, .int .i64 ty, .int .u64 en, .bool true, .int .u64 fa, .int .i64 fc, .int .u64 r0, .int .u64 r1, .int .u64 r2, .int .u64 r3] 28) := Blk.scsame mb73.out _ 0
              have F2 := Blk.scs (c := b7) n3.out (by omega) [.int .u64 y0, .int .u64 y1, .int .u64 y2, .int .u64 y3, .int .i64 ty, .int .u64 en, .bool true, .int .u64 fa, .int .i64 fc, .int .u64 r0, .int .u64 r1, .int .u64 r2, .int .u64 r3] 0
              have F2 : Hid _ := F2
              generalize v3.setCells b7 0 [.int .u64 y0, .int .u64 y1, .int .u64 y2, .int .u64 y3, .int .i64 ty, .int .u64 en, .bool true, .int .u64 fa, .int .i64 fc, .int .u64 r0, .int .u64 r1, .int .u64 r2, .int .u64 r3] = X1 at i1 Fb7 F2 ⊢
              clear j1 j2 j3 j4 j5 j6 mb73 n3
              obtain ⟨j1, j2, j3, j4, j5, j6⟩ := i1
              have G8 := F2
              clear F2
              have i2 := (show (fun cw => Blk cw w.heap.size [.int .u64 r0, .int .u64 r1, .int .u64 r2, .int .u64 r3, .int .i64 t, .int .u64 en, .bool false, .int .u64 a, .int .i64 c, .int .u64 s0, .int .u64 s1, .int .u64 s2, .int .u64 s3] 28 ∧ Blk cw bt [.int .u64 x0, .int .u64 x1, .int .u64 x2, .int .u64 x3, .int .i64 tau, .int .u64 en, .bool true, .int .u64 fa, .int .i64 fc, .int .u64 r0, .int .u64 r1, .int .u64 r2, .int .u64 r3] 28 ∧ Hid (cw.rangeAt bq (oq + k * 8) [.int .i64 kd, .int .i64 op, .int .i64 a1, .int .i64 b, .int .i64 d, .int .u64 x, .int .u64 ga, .int .i64 gc]) ∧ Below w.heap.size w cw ∧ bq < cw.heap.size ∧ Blk cw (w.heap.size + 1) [.int .u64 fa, .int .i64 fc] 26) X1 from ⟨j1, j2, j3, j4, j5, j6⟩)
              refine wpAnyH_ready (rs := [14]) (by kernel_rfl) (by simp) ?_
              refine AllReadyH.cons (o := ⟨none, .store 31 (.tmp 11) (.tmp 71), _, _, _, none⟩) rfl (fun K hK => ?_) AllReadyH.nil
              refine wanted_mp rfl ?_
              have th : X1.there b8 0 13 := Blk.there G8.out
              refine wp_store_mid _ _ _ rfl b8 0 #[.int .u64 q0, .int .u64 q1, .int .u64 q2, .int .u64 q3, .int .i64 q4, .int .u64 q5, .bool q6, .int .u64 q7, .int .i64 q8, .int .u64 q9, .int .u64 q10, .int .u64 q11, .int .u64 q12] rfl rfl th sx_info (by simp [Value.oneCell']) ?_
              refine hK.out _ _ ?_ (fun i3 => ?_)
              · exact ⟨Blk.scs j1 (by omega) _ 0, Blk.scs j2 (by omega) _ 0, World.rangeAt_setCells_apart j3.out _ 0 _ (Or.inl (by omega)), below_scs j4 (by omega) _ 0, by rw [size_scs]; exact j5, Blk.scs j6 (by omega) _ 0⟩
              clear hK K i2 th
              try simp only [Act.put, List.setIfInBounds_toArray, List.set_cons_zero, List.set_cons_succ]
              simp only [List.toList_toArray] at i3 ⊢
              have Fb8 : Hid (Blk (X1.setCells b8 0 [.int .u64 q0, .int .u64 q1, .int .u64 q2, .int .u64 q3, .int .i64 q4, .int .u64 q5, .bool q6, .int .u64 q7, .int .i64 q8, .int .u64 q9, .int .u64 q10, .int .u64 q11, .int .u64 q12]) b8 [.int .u64 q0, .int .u64 q1, .int .u64 q2, .int .u64 q3, .int .i64 q4, .int .u64 q5, .bool q6, .int .u64 q7, .int .i64 q8, .int .u64 q9, .int .u64 q10, .int .u64 q11, .int .u64 q12] 31) := Blk.scsame G8.out _ 0
              have F2 := Blk.scs (c := b8) Fb7.out (by omega) [.int .u64 q0, .int .u64 q1, .int .u64 q2, .int .u64 q3, .int .i64 q4, .int .u64 q5, .bool q6, .int .u64 q7, .int .i64 q8, .int .u64 q9, .int .u64 q10, .int .u64 q11, .int .u64 q12] 0
              have F2 : Hid _ := F2
              generalize X1.setCells b8 0 [.int .u64 q0, .int .u64 q1, .int .u64 q2, .int .u64 q3, .int .i64 q4, .int .u64 q5, .bool q6, .int .u64 q7, .int .i64 q8, .int .u64 q9, .int .u64 q10, .int .u64 q11, .int .u64 q12] = X2 at i3 Fb8 F2 ⊢
              clear j1 j2 j3 j4 j5 j6 G8 Fb7
              obtain ⟨j1, j2, j3, j4, j5, j6⟩ := i3
              have i3 := (show (fun cw => Blk cw w.heap.size [.int .u64 r0, .int .u64 r1, .int .u64 r2, .int .u64 r3, .int .i64 t, .int .u64 en, .bool false, .int .u64 a, .int .i64 c, .int .u64 s0, .int .u64 s1, .int .u64 s2, .int .u64 s3] 28 ∧ Blk cw bt [.int .u64 x0, .int .u64 x1, .int .u64 x2, .int .u64 x3, .int .i64 tau, .int .u64 en, .bool true, .int .u64 fa, .int .i64 fc, .int .u64 r0, .int .u64 r1, .int .u64 r2, .int .u64 r3] 28 ∧ Hid (cw.rangeAt bq (oq + k * 8) [.int .i64 kd, .int .i64 op, .int .i64 a1, .int .i64 b, .int .i64 d, .int .u64 x, .int .u64 ga, .int .i64 gc]) ∧ Below w.heap.size w cw ∧ bq < cw.heap.size ∧ Blk cw (w.heap.size + 1) [.int .u64 fa, .int .i64 fc] 26) X2 from ⟨j1, j2, j3, j4, j5, j6⟩)
              refine wpAnyH_take (i := 15) (oi := ⟨some 12, _, _, _, _, none⟩) (v := ?_) rfl (by kernel_rfl) (by kernel_rfl) (by kernel_rfl) (fun _ _ _ h => h) (Or.inl ⟨by rfl, ?_⟩) (by assumption) ?_
              rotate_left
              · intro w hSw; (try dsimp only at hSw); go_simp; (try with_reducible rfl)
              try simp only [Act.put, List.setIfInBounds_toArray, List.set_cons_zero, List.set_cons_succ]
              have W1 : Hid (Blk X2 w.heap.size [.int .u64 r0, .int .u64 r1, .int .u64 r2, .int .u64 r3, .int .i64 t, .int .u64 en, .bool false, .int .u64 a, .int .i64 c, .int .u64 s0, .int .u64 s1, .int .u64 s2, .int .u64 s3] 28) := j1
              have W2 : Hid (Blk X2 bt [.int .u64 x0, .int .u64 x1, .int .u64 x2, .int .u64 x3, .int .i64 tau, .int .u64 en, .bool true, .int .u64 fa, .int .i64 fc, .int .u64 r0, .int .u64 r1, .int .u64 r2, .int .u64 r3] 28) := j2
              have W3 : Hid (Below w.heap.size w X2) := j4
              have W4 : Hid (Blk X2 (w.heap.size + 1) [.int .u64 fa, .int .i64 fc] 26) := j6
              clear j1 j2 j3 j4 j5 j6 i3
              refine wpAnyH_done (by kernel_rfl) ?_ _
              refine NoPanic.normal ?_
              try go_wp2_with fail
              go_meet
              exact ⟨b7, b8, bz, rfl, rfl, rfl, F2, W1, W2, W3, W4, ⟨P7.1.1, P7.1.2.1, P7.1.2.2⟩⟩
            refine AllReadyH.cons (o := ⟨some 11, _, _, _, _, none⟩) rfl (fun K hK => ?_) AllReadyH.nil
            go_simp
            have NB4 : Hid (Below v1.heap.size v1 (v1.alloc (.cells #[.int .u64 0, .int .u64 0, .int .u64 0, .int .u64 0, .int .i64 0, .int .u64 0, .bool false, .int .u64 0, .int .i64 0, .int .u64 0, .int .u64 0, .int .u64 0, .int .u64 0] 31))) := Go.Joins.below_alloc1 _ _
            have n4 : Hid (Blk (v1.alloc (.cells #[.int .u64 0, .int .u64 0, .int .u64 0, .int .u64 0, .int .i64 0, .int .u64 0, .bool false, .int .u64 0, .int .i64 0, .int .u64 0, .int .u64 0, .int .u64 0, .int .u64 0] 31)) v1.heap.size [.int .u64 0, .int .u64 0, .int .u64 0, .int .u64 0, .int .i64 0, .int .u64 0, .bool false, .int .u64 0, .int .i64 0, .int .u64 0, .int .u64 0, .int .u64 0, .int .u64 0] 31) := Blk.made _ _ _
            have N4 : Hid ((v1.heap.size ≠ w.heap.size ∧ v1.heap.size ≠ bt ∧ v1.heap.size ≠ w.heap.size + 1) ∧ v1.heap.size ≠ bq ∧ w.heap.size ≤ v1.heap.size) := ⟨⟨by have := blk_lt hH1.1; omega, by have := blk_lt hH1.2.1; omega, by have := blk_lt hH1.2.2.2.2.2; omega⟩, by have := hH1.2.2.2.2.1; omega, Below.size hH1.2.2.2.1⟩
            refine hK.out _ _ ⟨Blk.below hH1.1 NB4.out, Blk.below hH1.2.1 NB4.out, range_below hH1.2.2.1.out NB4.out hH1.2.2.2.2.1, below_then hH1.2.2.2.1 NB4.out, Nat.lt_of_lt_of_le hH1.2.2.2.2.1 (Below.size NB4.out), Blk.below hH1.2.2.2.2.2 NB4.out⟩ (fun hH4 => ?_)
            clear hK K hH1 NB4 
            try simp only [Act.put, List.setIfInBounds_toArray, List.set_cons_zero, List.set_cons_succ]
            generalize v1.alloc (.cells #[.int .u64 0, .int .u64 0, .int .u64 0, .int .u64 0, .int .i64 0, .int .u64 0, .bool false, .int .u64 0, .int .i64 0, .int .u64 0, .int .u64 0, .int .u64 0, .int .u64 0] 31) = v4 at hH4 n4  ⊢
            generalize v1.heap.size = b8 at n4 N4 ⊢
            have Qb8 : Hid _ := N4
            refine wpAnyH_ready (rs := [11]) (by kernel_rfl) (by simp) ?_
            refine AllReadyH.cons (o := ⟨some 10, _, _, _, _, none⟩) rfl (fun K hK => ?_) AllReadyH.nil
            go_simp
            have NB5 : Hid (Below v4.heap.size v4 (v4.alloc (.cells #[.int .u64 0, .int .u64 0, .int .u64 0, .int .u64 0, .int .i64 0, .int .u64 0, .bool false, .int .u64 0, .int .i64 0, .int .u64 0, .int .u64 0, .int .u64 0, .int .u64 0] 28))) := Go.Joins.below_alloc1 _ _
            have mb85 := Blk.below n4.out NB5.out
            have mb85 : Hid _ := mb85
            have n5 : Hid (Blk (v4.alloc (.cells #[.int .u64 0, .int .u64 0, .int .u64 0, .int .u64 0, .int .i64 0, .int .u64 0, .bool false, .int .u64 0, .int .i64 0, .int .u64 0, .int .u64 0, .int .u64 0, .int .u64 0] 28)) v4.heap.size [.int .u64 0, .int .u64 0, .int .u64 0, .int .u64 0, .int .i64 0, .int .u64 0, .bool false, .int .u64 0, .int .i64 0, .int .u64 0, .int .u64 0, .int .u64 0, .int .u64 0] 28) := Blk.made _ _ _
            have N5 : Hid ((v4.heap.size ≠ w.heap.size ∧ v4.heap.size ≠ bt ∧ v4.heap.size ≠ w.heap.size + 1) ∧ v4.heap.size ≠ bq ∧ w.heap.size ≤ v4.heap.size ∧ v4.heap.size ≠ b8) := ⟨⟨by have := blk_lt hH4.1; omega, by have := blk_lt hH4.2.1; omega, by have := blk_lt hH4.2.2.2.2.2; omega⟩, by have := hH4.2.2.2.2.1; omega, Below.size hH4.2.2.2.1, by have := blk_lt n4.out; omega⟩
            refine hK.out _ _ ⟨Blk.below hH4.1 NB5.out, Blk.below hH4.2.1 NB5.out, range_below hH4.2.2.1.out NB5.out hH4.2.2.2.2.1, below_then hH4.2.2.2.1 NB5.out, Nat.lt_of_lt_of_le hH4.2.2.2.2.1 (Below.size NB5.out), Blk.below hH4.2.2.2.2.2 NB5.out⟩ (fun hH5 => ?_)
            clear hK K hH4 NB5 n4
            try simp only [Act.put, List.setIfInBounds_toArray, List.set_cons_zero, List.set_cons_succ]
            generalize v4.alloc (.cells #[.int .u64 0, .int .u64 0, .int .u64 0, .int .u64 0, .int .i64 0, .int .u64 0, .bool false, .int .u64 0, .int .i64 0, .int .u64 0, .int .u64 0, .int .u64 0, .int .u64 0] 28) = v5 at hH5 n5 mb85 ⊢
            generalize v4.heap.size = b7 at n5 N5 ⊢
            have Qb7 : Hid _ := N5
            have P7 := Qb7.out
            have P8 := Qb8.out
            obtain ⟨j1, j2, j3, j4, j5, j6⟩ := hH5
            have i0 := (show (fun cw => Blk cw w.heap.size [.int .u64 r0, .int .u64 r1, .int .u64 r2, .int .u64 r3, .int .i64 t, .int .u64 en, .bool false, .int .u64 a, .int .i64 c, .int .u64 s0, .int .u64 s1, .int .u64 s2, .int .u64 s3] 28 ∧ Blk cw bt [.int .u64 x0, .int .u64 x1, .int .u64 x2, .int .u64 x3, .int .i64 tau, .int .u64 en, .bool true, .int .u64 fa, .int .i64 fc, .int .u64 r0, .int .u64 r1, .int .u64 r2, .int .u64 r3] 28 ∧ Hid (cw.rangeAt bq (oq + k * 8) [.int .i64 kd, .int .i64 op, .int .i64 a1, .int .i64 b, .int .i64 d, .int .u64 x, .int .u64 ga, .int .i64 gc]) ∧ Below w.heap.size w cw ∧ bq < cw.heap.size ∧ Blk cw (w.heap.size + 1) [.int .u64 fa, .int .i64 fc] 26) v5 from ⟨j1, j2, j3, j4, j5, j6⟩)
            refine wpAnyH_ready (rs := [13]) (by kernel_rfl) (by simp) ?_
            refine AllReadyH.cons (o := ⟨none, .store 28 (.tmp 10) (.tmp 70), _, _, _, none⟩) rfl (fun K hK => ?_) AllReadyH.nil
            refine wanted_mp rfl ?_
            have th : v5.there b7 0 13 := Blk.there n5.out
            refine wp_store_mid _ _ _ rfl b7 0 #[.int .u64 y0, .int .u64 y1, .int .u64 y2, .int .u64 y3, .int .i64 ty, .int .u64 en, .bool true, .int .u64 fa, .int .i64 fc, .int .u64 r0, .int .u64 r1, .int .u64 r2, .int .u64 r3] rfl rfl th st_info (by simp [Value.oneCell']) ?_
            refine hK.out _ _ ?_ (fun i1 => ?_)
            · exact ⟨Blk.scs j1 (by omega) _ 0, Blk.scs j2 (by omega) _ 0, World.rangeAt_setCells_apart j3.out _ 0 _ (Or.inl (by omega)), below_scs j4 (by omega) _ 0, by rw [size_scs]; exact j5, Blk.scs j6 (by omega) _ 0⟩
            clear hK K i0 th
            try simp only [Act.put, List.setIfInBounds_toArray, List.set_cons_zero, List.set_cons_succ]
            simp only [List.toList_toArray] at i1 ⊢
            have Fb7 : Hid (Blk (v5.setCells b7 0 [.int .u64 y0, .int .u64 y1, .int .u64 y2, .int .u64 y3, .int .i64 ty, .int .u64 en, .bool true, .int .u64 fa, .int .i64 fc, .int .u64 r0, .int .u64 r1, .int .u64 r2, .int .u64 r3]) b7 [.int .u64 y0, .int .u64 y1, .int .u64 y2, .int .u64 y3, .int .i64 ty, .int .u64 en, .bool true, .int .u64 fa, .int .i64 fc, .int .u64 r0, .int .u64 r1, .int .u64 r2, .int .u64 r3] 28) := Blk.scsame n5.out _ 0
            have F2 := Blk.scs (c := b7) mb85.out (by omega) [.int .u64 y0, .int .u64 y1, .int .u64 y2, .int .u64 y3, .int .i64 ty, .int .u64 en, .bool true, .int .u64 fa, .int .i64 fc, .int .u64 r0, .int .u64 r1, .int .u64 r2, .int .u64 r3] 0
            have F2 : Hid _ := F2
            generalize v5.setCells b7 0 [.int .u64 y0, .int .u64 y1, .int .u64 y2, .int .u64 y3, .int .i64 ty, .int .u64 en, .bool true, .int .u64 fa, .int .i64 fc, .int .u64 r0, .int .u64 r1, .int .u64 r2, .int .u64 r3] = X1 at i1 Fb7 F2 ⊢
            clear j1 j2 j3 j4 j5 j6 n5 mb85
            obtain ⟨j1, j2, j3, j4, j5, j6⟩ := i1
            have G8 := F2
            clear F2
            have i2 := (show (fun cw => Blk cw w.heap.size [.int .u64 r0, .int .u64 r1, .int .u64 r2, .int .u64 r3, .int .i64 t, .int .u64 en, .bool false, .int .u64 a, .int .i64 c, .int .u64 s0, .int .u64 s1, .int .u64 s2, .int .u64 s3] 28 ∧ Blk cw bt [.int .u64 x0, .int .u64 x1, .int .u64 x2, .int .u64 x3, .int .i64 tau, .int .u64 en, .bool true, .int .u64 fa, .int .i64 fc, .int .u64 r0, .int .u64 r1, .int .u64 r2, .int .u64 r3] 28 ∧ Hid (cw.rangeAt bq (oq + k * 8) [.int .i64 kd, .int .i64 op, .int .i64 a1, .int .i64 b, .int .i64 d, .int .u64 x, .int .u64 ga, .int .i64 gc]) ∧ Below w.heap.size w cw ∧ bq < cw.heap.size ∧ Blk cw (w.heap.size + 1) [.int .u64 fa, .int .i64 fc] 26) X1 from ⟨j1, j2, j3, j4, j5, j6⟩)
            refine wpAnyH_ready (rs := [14]) (by kernel_rfl) (by simp) ?_
            refine AllReadyH.cons (o := ⟨none, .store 31 (.tmp 11) (.tmp 71), _, _, _, none⟩) rfl (fun K hK => ?_) AllReadyH.nil
            refine wanted_mp rfl ?_
            have th : X1.there b8 0 13 := Blk.there G8.out
            refine wp_store_mid _ _ _ rfl b8 0 #[.int .u64 q0, .int .u64 q1, .int .u64 q2, .int .u64 q3, .int .i64 q4, .int .u64 q5, .bool q6, .int .u64 q7, .int .i64 q8, .int .u64 q9, .int .u64 q10, .int .u64 q11, .int .u64 q12] rfl rfl th sx_info (by simp [Value.oneCell']) ?_
            refine hK.out _ _ ?_ (fun i3 => ?_)
            · exact ⟨Blk.scs j1 (by omega) _ 0, Blk.scs j2 (by omega) _ 0, World.rangeAt_setCells_apart j3.out _ 0 _ (Or.inl (by omega)), below_scs j4 (by omega) _ 0, by rw [size_scs]; exact j5, Blk.scs j6 (by omega) _ 0⟩
            clear hK K i2 th
            try simp only [Act.put, List.setIfInBounds_toArray, List.set_cons_zero, List.set_cons_succ]
            simp only [List.toList_toArray] at i3 ⊢
            have Fb8 : Hid (Blk (X1.setCells b8 0 [.int .u64 q0, .int .u64 q1, .int .u64 q2, .int .u64 q3, .int .i64 q4, .int .u64 q5, .bool q6, .int .u64 q7, .int .i64 q8, .int .u64 q9, .int .u64 q10, .int .u64 q11, .int .u64 q12]) b8 [.int .u64 q0, .int .u64 q1, .int .u64 q2, .int .u64 q3, .int .i64 q4, .int .u64 q5, .bool q6, .int .u64 q7, .int .i64 q8, .int .u64 q9, .int .u64 q10, .int .u64 q11, .int .u64 q12] 31) := Blk.scsame G8.out _ 0
            have F2 := Blk.scs (c := b8) Fb7.out (by omega) [.int .u64 q0, .int .u64 q1, .int .u64 q2, .int .u64 q3, .int .i64 q4, .int .u64 q5, .bool q6, .int .u64 q7, .int .i64 q8, .int .u64 q9, .int .u64 q10, .int .u64 q11, .int .u64 q12] 0
            have F2 : Hid _ := F2
            generalize X1.setCells b8 0 [.int .u64 q0, .int .u64 q1, .int .u64 q2, .int .u64 q3, .int .i64 q4, .int .u64 q5, .bool q6, .int .u64 q7, .int .i64 q8, .int .u64 q9, .int .u64 q10, .int .u64 q11, .int .u64 q12] = X2 at i3 Fb8 F2 ⊢
            clear j1 j2 j3 j4 j5 j6 G8 Fb7
            obtain ⟨j1, j2, j3, j4, j5, j6⟩ := i3
            have i3 := (show (fun cw => Blk cw w.heap.size [.int .u64 r0, .int .u64 r1, .int .u64 r2, .int .u64 r3, .int .i64 t, .int .u64 en, .bool false, .int .u64 a, .int .i64 c, .int .u64 s0, .int .u64 s1, .int .u64 s2, .int .u64 s3] 28 ∧ Blk cw bt [.int .u64 x0, .int .u64 x1, .int .u64 x2, .int .u64 x3, .int .i64 tau, .int .u64 en, .bool true, .int .u64 fa, .int .i64 fc, .int .u64 r0, .int .u64 r1, .int .u64 r2, .int .u64 r3] 28 ∧ Hid (cw.rangeAt bq (oq + k * 8) [.int .i64 kd, .int .i64 op, .int .i64 a1, .int .i64 b, .int .i64 d, .int .u64 x, .int .u64 ga, .int .i64 gc]) ∧ Below w.heap.size w cw ∧ bq < cw.heap.size ∧ Blk cw (w.heap.size + 1) [.int .u64 fa, .int .i64 fc] 26) X2 from ⟨j1, j2, j3, j4, j5, j6⟩)
            refine wpAnyH_take (i := 15) (oi := ⟨some 12, _, _, _, _, none⟩) (v := ?_) rfl (by kernel_rfl) (by kernel_rfl) (by kernel_rfl) (fun _ _ _ h => h) (Or.inl ⟨by rfl, ?_⟩) (by assumption) ?_
            rotate_left
            · intro w hSw; (try dsimp only at hSw); go_simp; (try with_reducible rfl)
            try simp only [Act.put, List.setIfInBounds_toArray, List.set_cons_zero, List.set_cons_succ]
            have W1 : Hid (Blk X2 w.heap.size [.int .u64 r0, .int .u64 r1, .int .u64 r2, .int .u64 r3, .int .i64 t, .int .u64 en, .bool false, .int .u64 a, .int .i64 c, .int .u64 s0, .int .u64 s1, .int .u64 s2, .int .u64 s3] 28) := j1
            have W2 : Hid (Blk X2 bt [.int .u64 x0, .int .u64 x1, .int .u64 x2, .int .u64 x3, .int .i64 tau, .int .u64 en, .bool true, .int .u64 fa, .int .i64 fc, .int .u64 r0, .int .u64 r1, .int .u64 r2, .int .u64 r3] 28) := j2
            have W3 : Hid (Below w.heap.size w X2) := j4
            have W4 : Hid (Blk X2 (w.heap.size + 1) [.int .u64 fa, .int .i64 fc] 26) := j6
            clear j1 j2 j3 j4 j5 j6 i3
            refine wpAnyH_done (by kernel_rfl) ?_ _
            refine NoPanic.normal ?_
            try go_wp2_with fail
            go_meet
            exact ⟨b7, b8, bz, rfl, rfl, rfl, F2, W1, W2, W3, W4, ⟨P7.1.1, P7.1.2.1, P7.1.2.2⟩⟩
          refine AllReadyH.cons (o := ⟨some 10, _, _, _, _, none⟩) rfl (fun K hK => ?_) ?_
          · go_simp
            have NB6 : Hid (Below v0.heap.size v0 (v0.alloc (.cells #[.int .u64 0, .int .u64 0, .int .u64 0, .int .u64 0, .int .i64 0, .int .u64 0, .bool false, .int .u64 0, .int .i64 0, .int .u64 0, .int .u64 0, .int .u64 0, .int .u64 0] 28))) := Go.Joins.below_alloc1 _ _
            have n6 : Hid (Blk (v0.alloc (.cells #[.int .u64 0, .int .u64 0, .int .u64 0, .int .u64 0, .int .i64 0, .int .u64 0, .bool false, .int .u64 0, .int .i64 0, .int .u64 0, .int .u64 0, .int .u64 0, .int .u64 0] 28)) v0.heap.size [.int .u64 0, .int .u64 0, .int .u64 0, .int .u64 0, .int .i64 0, .int .u64 0, .bool false, .int .u64 0, .int .i64 0, .int .u64 0, .int .u64 0, .int .u64 0, .int .u64 0] 28) := Blk.made _ _ _
            have N6 : Hid ((v0.heap.size ≠ w.heap.size ∧ v0.heap.size ≠ bt ∧ v0.heap.size ≠ w.heap.size + 1) ∧ v0.heap.size ≠ bq ∧ w.heap.size ≤ v0.heap.size) := ⟨⟨by have := blk_lt hH.1; omega, by have := blk_lt hH.2.1; omega, by have := blk_lt hH.2.2.2.2.2; omega⟩, by have := hH.2.2.2.2.1; omega, Below.size hH.2.2.2.1⟩
            refine hK.out _ _ ⟨Blk.below hH.1 NB6.out, Blk.below hH.2.1 NB6.out, range_below hH.2.2.1.out NB6.out hH.2.2.2.2.1, below_then hH.2.2.2.1 NB6.out, Nat.lt_of_lt_of_le hH.2.2.2.2.1 (Below.size NB6.out), Blk.below hH.2.2.2.2.2 NB6.out⟩ (fun hH6 => ?_)
            clear hK K hH NB6 
            try simp only [Act.put, List.setIfInBounds_toArray, List.set_cons_zero, List.set_cons_succ]
            generalize v0.alloc (.cells #[.int .u64 0, .int .u64 0, .int .u64 0, .int .u64 0, .int .i64 0, .int .u64 0, .bool false, .int .u64 0, .int .i64 0, .int .u64 0, .int .u64 0, .int .u64 0, .int .u64 0] 28) = v6 at hH6 n6  ⊢
            generalize v0.heap.size = b7 at n6 N6 ⊢
            have Qb7 : Hid _ := N6
            refine wpAnyH_ready (rs := [6, 12]) (by kernel_rfl) (by simp) ?_
            refine AllReadyH.cons (o := ⟨some 69, _, _, _, _, none⟩) rfl (fun K hK => ?_) ?_
            · go_simp
              go_wp2_with (go_at_call 9; refine (CD.out _).mono ?_; rintro e v7 ⟨rfl, hb⟩)
              have mb77 : Hid (Blk v7 b7 [.int .u64 0, .int .u64 0, .int .u64 0, .int .u64 0, .int .i64 0, .int .u64 0, .bool false, .int .u64 0, .int .i64 0, .int .u64 0, .int .u64 0, .int .u64 0, .int .u64 0] 28) := Blk.below n6.out hb
              refine hK.out _ _ ⟨Blk.below hH6.1 hb, Blk.below hH6.2.1 hb, range_below hH6.2.2.1.out hb hH6.2.2.2.2.1, below_then hH6.2.2.2.1 hb, Nat.lt_of_lt_of_le hH6.2.2.2.2.1 (Below.size hb), Blk.below hH6.2.2.2.2.2 hb⟩ (fun hH7 => ?_)
              clear hK K hb hH6 n6
              try simp only [Act.put, List.setIfInBounds_toArray, List.set_cons_zero, List.set_cons_succ]
              refine wpAnyH_take (i := 7) (oi := ⟨some 62, _, _, _, _, none⟩) (v := ?_) rfl (by kernel_rfl) (by kernel_rfl) (by kernel_rfl) (fun _ _ _ h => h) (Or.inl ⟨by rfl, ?_⟩) (by assumption) ?_
              rotate_left
              · intro w hSw; (try dsimp only at hSw); go_simp; (try with_reducible rfl)
              try simp only [Act.put, List.setIfInBounds_toArray, List.set_cons_zero, List.set_cons_succ]
              refine wpAnyH_take (i := 8) (oi := ⟨some 70, _, _, _, _, none⟩) (v := ?_) rfl (by kernel_rfl) (by kernel_rfl) (by kernel_rfl) (fun _ _ _ h => h) (Or.inl ⟨by rfl, ?_⟩) (by assumption) ?_
              rotate_left
              · intro w hSw; (try dsimp only at hSw); go_simp; (try with_reducible rfl)
              try simp only [Act.put, List.setIfInBounds_toArray, List.set_cons_zero, List.set_cons_succ]
              refine wpAnyH_take (i := 9) (oi := ⟨some 71, _, _, _, _, none⟩) (v := ?_) rfl (by kernel_rfl) (by kernel_rfl) (by kernel_rfl) (fun _ _ _ h => h) (Or.inl ⟨by rfl, ?_⟩) (by assumption) ?_
              rotate_left
              · intro w hSw; (try dsimp only at hSw); go_simp; (try with_reducible rfl)
              try simp only [Act.put, List.setIfInBounds_toArray, List.set_cons_zero, List.set_cons_succ]
              refine wpAnyH_take (i := 10) (oi := ⟨some 72, _, _, _, _, none⟩) (v := ?_) rfl (by kernel_rfl) (by kernel_rfl) (by kernel_rfl) (fun _ _ _ h => h) (Or.inl ⟨by rfl, ?_⟩) (by assumption) ?_
              rotate_left
              · intro w hSw; (try dsimp only at hSw); go_simp; (try with_reducible rfl)
              try simp only [Act.put, List.setIfInBounds_toArray, List.set_cons_zero, List.set_cons_succ]
              refine wpAnyH_ready (rs := [12]) (by kernel_rfl) (by simp) ?_
              refine AllReadyH.cons (o := ⟨some 11, _, _, _, _, none⟩) rfl (fun K hK => ?_) AllReadyH.nil
              go_simp
              have NB8 : Hid (Below v7.heap.size v7 (v7.alloc (.cells #[.int .u64 0, .int .u64 0, .int .u64 0, .int .u64 0, .int .i64 0, .int .u64 0, .bool false, .int .u64 0, .int .i64 0, .int .u64 0, .int .u64 0, .int .u64 0, .int .u64 0] 31))) := Go.Joins.below_alloc1 _ _
              have mb78 := Blk.below mb77.out NB8.out
              have mb78 : Hid _ := mb78
              have n8 : Hid (Blk (v7.alloc (.cells #[.int .u64 0, .int .u64 0, .int .u64 0, .int .u64 0, .int .i64 0, .int .u64 0, .bool false, .int .u64 0, .int .i64 0, .int .u64 0, .int .u64 0, .int .u64 0, .int .u64 0] 31)) v7.heap.size [.int .u64 0, .int .u64 0, .int .u64 0, .int .u64 0, .int .i64 0, .int .u64 0, .bool false, .int .u64 0, .int .i64 0, .int .u64 0, .int .u64 0, .int .u64 0, .int .u64 0] 31) := Blk.made _ _ _
              have N8 : Hid ((v7.heap.size ≠ w.heap.size ∧ v7.heap.size ≠ bt ∧ v7.heap.size ≠ w.heap.size + 1) ∧ v7.heap.size ≠ bq ∧ w.heap.size ≤ v7.heap.size ∧ v7.heap.size ≠ b7) := ⟨⟨by have := blk_lt hH7.1; omega, by have := blk_lt hH7.2.1; omega, by have := blk_lt hH7.2.2.2.2.2; omega⟩, by have := hH7.2.2.2.2.1; omega, Below.size hH7.2.2.2.1, by have := blk_lt mb77.out; omega⟩
              refine hK.out _ _ ⟨Blk.below hH7.1 NB8.out, Blk.below hH7.2.1 NB8.out, range_below hH7.2.2.1.out NB8.out hH7.2.2.2.2.1, below_then hH7.2.2.2.1 NB8.out, Nat.lt_of_lt_of_le hH7.2.2.2.2.1 (Below.size NB8.out), Blk.below hH7.2.2.2.2.2 NB8.out⟩ (fun hH8 => ?_)
              clear hK K hH7 NB8 mb77
              try simp only [Act.put, List.setIfInBounds_toArray, List.set_cons_zero, List.set_cons_succ]
              generalize v7.alloc (.cells #[.int .u64 0, .int .u64 0, .int .u64 0, .int .u64 0, .int .i64 0, .int .u64 0, .bool false, .int .u64 0, .int .i64 0, .int .u64 0, .int .u64 0, .int .u64 0, .int .u64 0] 31) = v8 at hH8 n8 mb78 ⊢
              generalize v7.heap.size = b8 at n8 N8 ⊢
              have Qb8 : Hid _ := N8
              have P7 := Qb7.out
              have P8 := Qb8.out
              obtain ⟨j1, j2, j3, j4, j5, j6⟩ := hH8
              have i0 := (show (fun cw => Blk cw w.heap.size [.int .u64 r0, .int .u64 r1, .int .u64 r2, .int .u64 r3, .int .i64 t, .int .u64 en, .bool false, .int .u64 a, .int .i64 c, .int .u64 s0, .int .u64 s1, .int .u64 s2, .int .u64 s3] 28 ∧ Blk cw bt [.int .u64 x0, .int .u64 x1, .int .u64 x2, .int .u64 x3, .int .i64 tau, .int .u64 en, .bool true, .int .u64 fa, .int .i64 fc, .int .u64 r0, .int .u64 r1, .int .u64 r2, .int .u64 r3] 28 ∧ Hid (cw.rangeAt bq (oq + k * 8) [.int .i64 kd, .int .i64 op, .int .i64 a1, .int .i64 b, .int .i64 d, .int .u64 x, .int .u64 ga, .int .i64 gc]) ∧ Below w.heap.size w cw ∧ bq < cw.heap.size ∧ Blk cw (w.heap.size + 1) [.int .u64 fa, .int .i64 fc] 26) v8 from ⟨j1, j2, j3, j4, j5, j6⟩)
              refine wpAnyH_ready (rs := [13]) (by kernel_rfl) (by simp) ?_
              refine AllReadyH.cons (o := ⟨none, .store 28 (.tmp 10) (.tmp 70), _, _, _, none⟩) rfl (fun K hK => ?_) AllReadyH.nil
              refine wanted_mp rfl ?_
              have th : v8.there b7 0 13 := Blk.there mb78.out
              refine wp_store_mid _ _ _ rfl b7 0 #[.int .u64 y0, .int .u64 y1, .int .u64 y2, .int .u64 y3, .int .i64 ty, .int .u64 en, .bool true, .int .u64 fa, .int .i64 fc, .int .u64 r0, .int .u64 r1, .int .u64 r2, .int .u64 r3] rfl rfl th st_info (by simp [Value.oneCell']) ?_
              refine hK.out _ _ ?_ (fun i1 => ?_)
              · exact ⟨Blk.scs j1 (by omega) _ 0, Blk.scs j2 (by omega) _ 0, World.rangeAt_setCells_apart j3.out _ 0 _ (Or.inl (by omega)), below_scs j4 (by omega) _ 0, by rw [size_scs]; exact j5, Blk.scs j6 (by omega) _ 0⟩
              clear hK K i0 th
              try simp only [Act.put, List.setIfInBounds_toArray, List.set_cons_zero, List.set_cons_succ]
              simp only [List.toList_toArray] at i1 ⊢
              have Fb7 : Hid (Blk (v8.setCells b7 0 [.int .u64 y0, .int .u64 y1, .int .u64 y2, .int .u64 y3, .int .i64 ty, .int .u64 en, .bool true, .int .u64 fa, .int .i64 fc, .int .u64 r0, .int .u64 r1, .int .u64 r2, .int .u64 r3]) b7 [.int .u64 y0, .int .u64 y1, .int .u64 y2, .int .u64 y3, .int .i64 ty, .int .u64 en, .bool true, .int .u64 fa, .int .i64 fc, .int .u64 r0, .int .u64 r1, .int .u64 r2, .int .u64 r3] 28) := Blk.scsame mb78.out _ 0
              have F2 := Blk.scs (c := b7) n8.out (by omega) [.int .u64 y0, .int .u64 y1, .int .u64 y2, .int .u64 y3, .int .i64 ty, .int .u64 en, .bool true, .int .u64 fa, .int .i64 fc, .int .u64 r0, .int .u64 r1, .int .u64 r2, .int .u64 r3] 0
              have F2 : Hid _ := F2
              generalize v8.setCells b7 0 [.int .u64 y0, .int .u64 y1, .int .u64 y2, .int .u64 y3, .int .i64 ty, .int .u64 en, .bool true, .int .u64 fa, .int .i64 fc, .int .u64 r0, .int .u64 r1, .int .u64 r2, .int .u64 r3] = X1 at i1 Fb7 F2 ⊢
              clear j1 j2 j3 j4 j5 j6 mb78 n8
              obtain ⟨j1, j2, j3, j4, j5, j6⟩ := i1
              have G8 := F2
              clear F2
              have i2 := (show (fun cw => Blk cw w.heap.size [.int .u64 r0, .int .u64 r1, .int .u64 r2, .int .u64 r3, .int .i64 t, .int .u64 en, .bool false, .int .u64 a, .int .i64 c, .int .u64 s0, .int .u64 s1, .int .u64 s2, .int .u64 s3] 28 ∧ Blk cw bt [.int .u64 x0, .int .u64 x1, .int .u64 x2, .int .u64 x3, .int .i64 tau, .int .u64 en, .bool true, .int .u64 fa, .int .i64 fc, .int .u64 r0, .int .u64 r1, .int .u64 r2, .int .u64 r3] 28 ∧ Hid (cw.rangeAt bq (oq + k * 8) [.int .i64 kd, .int .i64 op, .int .i64 a1, .int .i64 b, .int .i64 d, .int .u64 x, .int .u64 ga, .int .i64 gc]) ∧ Below w.heap.size w cw ∧ bq < cw.heap.size ∧ Blk cw (w.heap.size + 1) [.int .u64 fa, .int .i64 fc] 26) X1 from ⟨j1, j2, j3, j4, j5, j6⟩)
              refine wpAnyH_ready (rs := [14]) (by kernel_rfl) (by simp) ?_
              refine AllReadyH.cons (o := ⟨none, .store 31 (.tmp 11) (.tmp 71), _, _, _, none⟩) rfl (fun K hK => ?_) AllReadyH.nil
              refine wanted_mp rfl ?_
              have th : X1.there b8 0 13 := Blk.there G8.out
              refine wp_store_mid _ _ _ rfl b8 0 #[.int .u64 q0, .int .u64 q1, .int .u64 q2, .int .u64 q3, .int .i64 q4, .int .u64 q5, .bool q6, .int .u64 q7, .int .i64 q8, .int .u64 q9, .int .u64 q10, .int .u64 q11, .int .u64 q12] rfl rfl th sx_info (by simp [Value.oneCell']) ?_
              refine hK.out _ _ ?_ (fun i3 => ?_)
              · exact ⟨Blk.scs j1 (by omega) _ 0, Blk.scs j2 (by omega) _ 0, World.rangeAt_setCells_apart j3.out _ 0 _ (Or.inl (by omega)), below_scs j4 (by omega) _ 0, by rw [size_scs]; exact j5, Blk.scs j6 (by omega) _ 0⟩
              clear hK K i2 th
              try simp only [Act.put, List.setIfInBounds_toArray, List.set_cons_zero, List.set_cons_succ]
              simp only [List.toList_toArray] at i3 ⊢
              have Fb8 : Hid (Blk (X1.setCells b8 0 [.int .u64 q0, .int .u64 q1, .int .u64 q2, .int .u64 q3, .int .i64 q4, .int .u64 q5, .bool q6, .int .u64 q7, .int .i64 q8, .int .u64 q9, .int .u64 q10, .int .u64 q11, .int .u64 q12]) b8 [.int .u64 q0, .int .u64 q1, .int .u64 q2, .int .u64 q3, .int .i64 q4, .int .u64 q5, .bool q6, .int .u64 q7, .int .i64 q8, .int .u64 q9, .int .u64 q10, .int .u64 q11, .int .u64 q12] 31) := Blk.scsame G8.out _ 0
              have F2 := Blk.scs (c := b8) Fb7.out (by omega) [.int .u64 q0, .int .u64 q1, .int .u64 q2, .int .u64 q3, .int .i64 q4, .int .u64 q5, .bool q6, .int .u64 q7, .int .i64 q8, .int .u64 q9, .int .u64 q10, .int .u64 q11, .int .u64 q12] 0
              have F2 : Hid _ := F2
              generalize X1.setCells b8 0 [.int .u64 q0, .int .u64 q1, .int .u64 q2, .int .u64 q3, .int .i64 q4, .int .u64 q5, .bool q6, .int .u64 q7, .int .i64 q8, .int .u64 q9, .int .u64 q10, .int .u64 q11, .int .u64 q12] = X2 at i3 Fb8 F2 ⊢
              clear j1 j2 j3 j4 j5 j6 G8 Fb7
              obtain ⟨j1, j2, j3, j4, j5, j6⟩ := i3
              have i3 := (show (fun cw => Blk cw w.heap.size [.int .u64 r0, .int .u64 r1, .int .u64 r2, .int .u64 r3, .int .i64 t, .int .u64 en, .bool false, .int .u64 a, .int .i64 c, .int .u64 s0, .int .u64 s1, .int .u64 s2, .int .u64 s3] 28 ∧ Blk cw bt [.int .u64 x0, .int .u64 x1, .int .u64 x2, .int .u64 x3, .int .i64 tau, .int .u64 en, .bool true, .int .u64 fa, .int .i64 fc, .int .u64 r0, .int .u64 r1, .int .u64 r2, .int .u64 r3] 28 ∧ Hid (cw.rangeAt bq (oq + k * 8) [.int .i64 kd, .int .i64 op, .int .i64 a1, .int .i64 b, .int .i64 d, .int .u64 x, .int .u64 ga, .int .i64 gc]) ∧ Below w.heap.size w cw ∧ bq < cw.heap.size ∧ Blk cw (w.heap.size + 1) [.int .u64 fa, .int .i64 fc] 26) X2 from ⟨j1, j2, j3, j4, j5, j6⟩)
              refine wpAnyH_take (i := 15) (oi := ⟨some 12, _, _, _, _, none⟩) (v := ?_) rfl (by kernel_rfl) (by kernel_rfl) (by kernel_rfl) (fun _ _ _ h => h) (Or.inl ⟨by rfl, ?_⟩) (by assumption) ?_
              rotate_left
              · intro w hSw; (try dsimp only at hSw); go_simp; (try with_reducible rfl)
              try simp only [Act.put, List.setIfInBounds_toArray, List.set_cons_zero, List.set_cons_succ]
              have W1 : Hid (Blk X2 w.heap.size [.int .u64 r0, .int .u64 r1, .int .u64 r2, .int .u64 r3, .int .i64 t, .int .u64 en, .bool false, .int .u64 a, .int .i64 c, .int .u64 s0, .int .u64 s1, .int .u64 s2, .int .u64 s3] 28) := j1
              have W2 : Hid (Blk X2 bt [.int .u64 x0, .int .u64 x1, .int .u64 x2, .int .u64 x3, .int .i64 tau, .int .u64 en, .bool true, .int .u64 fa, .int .i64 fc, .int .u64 r0, .int .u64 r1, .int .u64 r2, .int .u64 r3] 28) := j2
              have W3 : Hid (Below w.heap.size w X2) := j4
              have W4 : Hid (Blk X2 (w.heap.size + 1) [.int .u64 fa, .int .i64 fc] 26) := j6
              clear j1 j2 j3 j4 j5 j6 i3
              refine wpAnyH_done (by kernel_rfl) ?_ _
              refine NoPanic.normal ?_
              try go_wp2_with fail
              go_meet
              exact ⟨b7, b8, bz, rfl, rfl, rfl, F2, W1, W2, W3, W4, ⟨P7.1.1, P7.1.2.1, P7.1.2.2⟩⟩
            refine AllReadyH.cons (o := ⟨some 11, _, _, _, _, none⟩) rfl (fun K hK => ?_) AllReadyH.nil
            go_simp
            have NB9 : Hid (Below v6.heap.size v6 (v6.alloc (.cells #[.int .u64 0, .int .u64 0, .int .u64 0, .int .u64 0, .int .i64 0, .int .u64 0, .bool false, .int .u64 0, .int .i64 0, .int .u64 0, .int .u64 0, .int .u64 0, .int .u64 0] 31))) := Go.Joins.below_alloc1 _ _
            have mb79 := Blk.below n6.out NB9.out
            have mb79 : Hid _ := mb79
            have n9 : Hid (Blk (v6.alloc (.cells #[.int .u64 0, .int .u64 0, .int .u64 0, .int .u64 0, .int .i64 0, .int .u64 0, .bool false, .int .u64 0, .int .i64 0, .int .u64 0, .int .u64 0, .int .u64 0, .int .u64 0] 31)) v6.heap.size [.int .u64 0, .int .u64 0, .int .u64 0, .int .u64 0, .int .i64 0, .int .u64 0, .bool false, .int .u64 0, .int .i64 0, .int .u64 0, .int .u64 0, .int .u64 0, .int .u64 0] 31) := Blk.made _ _ _
            have N9 : Hid ((v6.heap.size ≠ w.heap.size ∧ v6.heap.size ≠ bt ∧ v6.heap.size ≠ w.heap.size + 1) ∧ v6.heap.size ≠ bq ∧ w.heap.size ≤ v6.heap.size ∧ v6.heap.size ≠ b7) := ⟨⟨by have := blk_lt hH6.1; omega, by have := blk_lt hH6.2.1; omega, by have := blk_lt hH6.2.2.2.2.2; omega⟩, by have := hH6.2.2.2.2.1; omega, Below.size hH6.2.2.2.1, by have := blk_lt n6.out; omega⟩
            refine hK.out _ _ ⟨Blk.below hH6.1 NB9.out, Blk.below hH6.2.1 NB9.out, range_below hH6.2.2.1.out NB9.out hH6.2.2.2.2.1, below_then hH6.2.2.2.1 NB9.out, Nat.lt_of_lt_of_le hH6.2.2.2.2.1 (Below.size NB9.out), Blk.below hH6.2.2.2.2.2 NB9.out⟩ (fun hH9 => ?_)
            clear hK K hH6 NB9 n6
            try simp only [Act.put, List.setIfInBounds_toArray, List.set_cons_zero, List.set_cons_succ]
            generalize v6.alloc (.cells #[.int .u64 0, .int .u64 0, .int .u64 0, .int .u64 0, .int .i64 0, .int .u64 0, .bool false, .int .u64 0, .int .i64 0, .int .u64 0, .int .u64 0, .int .u64 0, .int .u64 0] 31) = v9 at hH9 n9 mb79 ⊢
            generalize v6.heap.size = b8 at n9 N9 ⊢
            have Qb8 : Hid _ := N9
            refine wpAnyH_ready (rs := [6]) (by kernel_rfl) (by simp) ?_
            refine AllReadyH.cons (o := ⟨some 69, _, _, _, _, none⟩) rfl (fun K hK => ?_) AllReadyH.nil
            go_simp
            go_wp2_with (go_at_call 9; refine (CD.out _).mono ?_; rintro e v10 ⟨rfl, hb⟩)
            have mb710 : Hid (Blk v10 b7 [.int .u64 0, .int .u64 0, .int .u64 0, .int .u64 0, .int .i64 0, .int .u64 0, .bool false, .int .u64 0, .int .i64 0, .int .u64 0, .int .u64 0, .int .u64 0, .int .u64 0] 28) := Blk.below mb79.out hb
            have mb810 : Hid (Blk v10 b8 [.int .u64 0, .int .u64 0, .int .u64 0, .int .u64 0, .int .i64 0, .int .u64 0, .bool false, .int .u64 0, .int .i64 0, .int .u64 0, .int .u64 0, .int .u64 0, .int .u64 0] 31) := Blk.below n9.out hb
            refine hK.out _ _ ⟨Blk.below hH9.1 hb, Blk.below hH9.2.1 hb, range_below hH9.2.2.1.out hb hH9.2.2.2.2.1, below_then hH9.2.2.2.1 hb, Nat.lt_of_lt_of_le hH9.2.2.2.2.1 (Below.size hb), Blk.below hH9.2.2.2.2.2 hb⟩ (fun hH10 => ?_)
            clear hK K hb hH9 mb79 n9
            try simp only [Act.put, List.setIfInBounds_toArray, List.set_cons_zero, List.set_cons_succ]
            refine wpAnyH_take (i := 7) (oi := ⟨some 62, _, _, _, _, none⟩) (v := ?_) rfl (by kernel_rfl) (by kernel_rfl) (by kernel_rfl) (fun _ _ _ h => h) (Or.inl ⟨by rfl, ?_⟩) (by assumption) ?_
            rotate_left
            · intro w hSw; (try dsimp only at hSw); go_simp; (try with_reducible rfl)
            try simp only [Act.put, List.setIfInBounds_toArray, List.set_cons_zero, List.set_cons_succ]
            refine wpAnyH_take (i := 8) (oi := ⟨some 70, _, _, _, _, none⟩) (v := ?_) rfl (by kernel_rfl) (by kernel_rfl) (by kernel_rfl) (fun _ _ _ h => h) (Or.inl ⟨by rfl, ?_⟩) (by assumption) ?_
            rotate_left
            · intro w hSw; (try dsimp only at hSw); go_simp; (try with_reducible rfl)
            try simp only [Act.put, List.setIfInBounds_toArray, List.set_cons_zero, List.set_cons_succ]
            refine wpAnyH_take (i := 9) (oi := ⟨some 71, _, _, _, _, none⟩) (v := ?_) rfl (by kernel_rfl) (by kernel_rfl) (by kernel_rfl) (fun _ _ _ h => h) (Or.inl ⟨by rfl, ?_⟩) (by assumption) ?_
            rotate_left
            · intro w hSw; (try dsimp only at hSw); go_simp; (try with_reducible rfl)
            try simp only [Act.put, List.setIfInBounds_toArray, List.set_cons_zero, List.set_cons_succ]
            refine wpAnyH_take (i := 10) (oi := ⟨some 72, _, _, _, _, none⟩) (v := ?_) rfl (by kernel_rfl) (by kernel_rfl) (by kernel_rfl) (fun _ _ _ h => h) (Or.inl ⟨by rfl, ?_⟩) (by assumption) ?_
            rotate_left
            · intro w hSw; (try dsimp only at hSw); go_simp; (try with_reducible rfl)
            try simp only [Act.put, List.setIfInBounds_toArray, List.set_cons_zero, List.set_cons_succ]
            have P7 := Qb7.out
            have P8 := Qb8.out
            obtain ⟨j1, j2, j3, j4, j5, j6⟩ := hH10
            have i0 := (show (fun cw => Blk cw w.heap.size [.int .u64 r0, .int .u64 r1, .int .u64 r2, .int .u64 r3, .int .i64 t, .int .u64 en, .bool false, .int .u64 a, .int .i64 c, .int .u64 s0, .int .u64 s1, .int .u64 s2, .int .u64 s3] 28 ∧ Blk cw bt [.int .u64 x0, .int .u64 x1, .int .u64 x2, .int .u64 x3, .int .i64 tau, .int .u64 en, .bool true, .int .u64 fa, .int .i64 fc, .int .u64 r0, .int .u64 r1, .int .u64 r2, .int .u64 r3] 28 ∧ Hid (cw.rangeAt bq (oq + k * 8) [.int .i64 kd, .int .i64 op, .int .i64 a1, .int .i64 b, .int .i64 d, .int .u64 x, .int .u64 ga, .int .i64 gc]) ∧ Below w.heap.size w cw ∧ bq < cw.heap.size ∧ Blk cw (w.heap.size + 1) [.int .u64 fa, .int .i64 fc] 26) v10 from ⟨j1, j2, j3, j4, j5, j6⟩)
            refine wpAnyH_ready (rs := [13]) (by kernel_rfl) (by simp) ?_
            refine AllReadyH.cons (o := ⟨none, .store 28 (.tmp 10) (.tmp 70), _, _, _, none⟩) rfl (fun K hK => ?_) AllReadyH.nil
            refine wanted_mp rfl ?_
            have th : v10.there b7 0 13 := Blk.there mb710.out
            refine wp_store_mid _ _ _ rfl b7 0 #[.int .u64 y0, .int .u64 y1, .int .u64 y2, .int .u64 y3, .int .i64 ty, .int .u64 en, .bool true, .int .u64 fa, .int .i64 fc, .int .u64 r0, .int .u64 r1, .int .u64 r2, .int .u64 r3] rfl rfl th st_info (by simp [Value.oneCell']) ?_
            refine hK.out _ _ ?_ (fun i1 => ?_)
            · exact ⟨Blk.scs j1 (by omega) _ 0, Blk.scs j2 (by omega) _ 0, World.rangeAt_setCells_apart j3.out _ 0 _ (Or.inl (by omega)), below_scs j4 (by omega) _ 0, by rw [size_scs]; exact j5, Blk.scs j6 (by omega) _ 0⟩
            clear hK K i0 th
            try simp only [Act.put, List.setIfInBounds_toArray, List.set_cons_zero, List.set_cons_succ]
            simp only [List.toList_toArray] at i1 ⊢
            have Fb7 : Hid (Blk (v10.setCells b7 0 [.int .u64 y0, .int .u64 y1, .int .u64 y2, .int .u64 y3, .int .i64 ty, .int .u64 en, .bool true, .int .u64 fa, .int .i64 fc, .int .u64 r0, .int .u64 r1, .int .u64 r2, .int .u64 r3]) b7 [.int .u64 y0, .int .u64 y1, .int .u64 y2, .int .u64 y3, .int .i64 ty, .int .u64 en, .bool true, .int .u64 fa, .int .i64 fc, .int .u64 r0, .int .u64 r1, .int .u64 r2, .int .u64 r3] 28) := Blk.scsame mb710.out _ 0
            have F2 := Blk.scs (c := b7) mb810.out (by omega) [.int .u64 y0, .int .u64 y1, .int .u64 y2, .int .u64 y3, .int .i64 ty, .int .u64 en, .bool true, .int .u64 fa, .int .i64 fc, .int .u64 r0, .int .u64 r1, .int .u64 r2, .int .u64 r3] 0
            have F2 : Hid _ := F2
            generalize v10.setCells b7 0 [.int .u64 y0, .int .u64 y1, .int .u64 y2, .int .u64 y3, .int .i64 ty, .int .u64 en, .bool true, .int .u64 fa, .int .i64 fc, .int .u64 r0, .int .u64 r1, .int .u64 r2, .int .u64 r3] = X1 at i1 Fb7 F2 ⊢
            clear j1 j2 j3 j4 j5 j6 mb710 mb810
            obtain ⟨j1, j2, j3, j4, j5, j6⟩ := i1
            have G8 := F2
            clear F2
            have i2 := (show (fun cw => Blk cw w.heap.size [.int .u64 r0, .int .u64 r1, .int .u64 r2, .int .u64 r3, .int .i64 t, .int .u64 en, .bool false, .int .u64 a, .int .i64 c, .int .u64 s0, .int .u64 s1, .int .u64 s2, .int .u64 s3] 28 ∧ Blk cw bt [.int .u64 x0, .int .u64 x1, .int .u64 x2, .int .u64 x3, .int .i64 tau, .int .u64 en, .bool true, .int .u64 fa, .int .i64 fc, .int .u64 r0, .int .u64 r1, .int .u64 r2, .int .u64 r3] 28 ∧ Hid (cw.rangeAt bq (oq + k * 8) [.int .i64 kd, .int .i64 op, .int .i64 a1, .int .i64 b, .int .i64 d, .int .u64 x, .int .u64 ga, .int .i64 gc]) ∧ Below w.heap.size w cw ∧ bq < cw.heap.size ∧ Blk cw (w.heap.size + 1) [.int .u64 fa, .int .i64 fc] 26) X1 from ⟨j1, j2, j3, j4, j5, j6⟩)
            refine wpAnyH_ready (rs := [14]) (by kernel_rfl) (by simp) ?_
            refine AllReadyH.cons (o := ⟨none, .store 31 (.tmp 11) (.tmp 71), _, _, _, none⟩) rfl (fun K hK => ?_) AllReadyH.nil
            refine wanted_mp rfl ?_
            have th : X1.there b8 0 13 := Blk.there G8.out
            refine wp_store_mid _ _ _ rfl b8 0 #[.int .u64 q0, .int .u64 q1, .int .u64 q2, .int .u64 q3, .int .i64 q4, .int .u64 q5, .bool q6, .int .u64 q7, .int .i64 q8, .int .u64 q9, .int .u64 q10, .int .u64 q11, .int .u64 q12] rfl rfl th sx_info (by simp [Value.oneCell']) ?_
            refine hK.out _ _ ?_ (fun i3 => ?_)
            · exact ⟨Blk.scs j1 (by omega) _ 0, Blk.scs j2 (by omega) _ 0, World.rangeAt_setCells_apart j3.out _ 0 _ (Or.inl (by omega)), below_scs j4 (by omega) _ 0, by rw [size_scs]; exact j5, Blk.scs j6 (by omega) _ 0⟩
            clear hK K i2 th
            try simp only [Act.put, List.setIfInBounds_toArray, List.set_cons_zero, List.set_cons_succ]
            simp only [List.toList_toArray] at i3 ⊢
            have Fb8 : Hid (Blk (X1.setCells b8 0 [.int .u64 q0, .int .u64 q1, .int .u64 q2, .int .u64 q3, .int .i64 q4, .int .u64 q5, .bool q6, .int .u64 q7, .int .i64 q8, .int .u64 q9, .int .u64 q10, .int .u64 q11, .int .u64 q12]) b8 [.int .u64 q0, .int .u64 q1, .int .u64 q2, .int .u64 q3, .int .i64 q4, .int .u64 q5, .bool q6, .int .u64 q7, .int .i64 q8, .int .u64 q9, .int .u64 q10, .int .u64 q11, .int .u64 q12] 31) := Blk.scsame G8.out _ 0
            have F2 := Blk.scs (c := b8) Fb7.out (by omega) [.int .u64 q0, .int .u64 q1, .int .u64 q2, .int .u64 q3, .int .i64 q4, .int .u64 q5, .bool q6, .int .u64 q7, .int .i64 q8, .int .u64 q9, .int .u64 q10, .int .u64 q11, .int .u64 q12] 0
            have F2 : Hid _ := F2
            generalize X1.setCells b8 0 [.int .u64 q0, .int .u64 q1, .int .u64 q2, .int .u64 q3, .int .i64 q4, .int .u64 q5, .bool q6, .int .u64 q7, .int .i64 q8, .int .u64 q9, .int .u64 q10, .int .u64 q11, .int .u64 q12] = X2 at i3 Fb8 F2 ⊢
            clear j1 j2 j3 j4 j5 j6 G8 Fb7
            obtain ⟨j1, j2, j3, j4, j5, j6⟩ := i3
            have i3 := (show (fun cw => Blk cw w.heap.size [.int .u64 r0, .int .u64 r1, .int .u64 r2, .int .u64 r3, .int .i64 t, .int .u64 en, .bool false, .int .u64 a, .int .i64 c, .int .u64 s0, .int .u64 s1, .int .u64 s2, .int .u64 s3] 28 ∧ Blk cw bt [.int .u64 x0, .int .u64 x1, .int .u64 x2, .int .u64 x3, .int .i64 tau, .int .u64 en, .bool true, .int .u64 fa, .int .i64 fc, .int .u64 r0, .int .u64 r1, .int .u64 r2, .int .u64 r3] 28 ∧ Hid (cw.rangeAt bq (oq + k * 8) [.int .i64 kd, .int .i64 op, .int .i64 a1, .int .i64 b, .int .i64 d, .int .u64 x, .int .u64 ga, .int .i64 gc]) ∧ Below w.heap.size w cw ∧ bq < cw.heap.size ∧ Blk cw (w.heap.size + 1) [.int .u64 fa, .int .i64 fc] 26) X2 from ⟨j1, j2, j3, j4, j5, j6⟩)
            refine wpAnyH_take (i := 15) (oi := ⟨some 12, _, _, _, _, none⟩) (v := ?_) rfl (by kernel_rfl) (by kernel_rfl) (by kernel_rfl) (fun _ _ _ h => h) (Or.inl ⟨by rfl, ?_⟩) (by assumption) ?_
            rotate_left
            · intro w hSw; (try dsimp only at hSw); go_simp; (try with_reducible rfl)
            try simp only [Act.put, List.setIfInBounds_toArray, List.set_cons_zero, List.set_cons_succ]
            have W1 : Hid (Blk X2 w.heap.size [.int .u64 r0, .int .u64 r1, .int .u64 r2, .int .u64 r3, .int .i64 t, .int .u64 en, .bool false, .int .u64 a, .int .i64 c, .int .u64 s0, .int .u64 s1, .int .u64 s2, .int .u64 s3] 28) := j1
            have W2 : Hid (Blk X2 bt [.int .u64 x0, .int .u64 x1, .int .u64 x2, .int .u64 x3, .int .i64 tau, .int .u64 en, .bool true, .int .u64 fa, .int .i64 fc, .int .u64 r0, .int .u64 r1, .int .u64 r2, .int .u64 r3] 28) := j2
            have W3 : Hid (Below w.heap.size w X2) := j4
            have W4 : Hid (Blk X2 (w.heap.size + 1) [.int .u64 fa, .int .i64 fc] 26) := j6
            clear j1 j2 j3 j4 j5 j6 i3
            refine wpAnyH_done (by kernel_rfl) ?_ _
            refine NoPanic.normal ?_
            try go_wp2_with fail
            go_meet
            exact ⟨b7, b8, bz, rfl, rfl, rfl, F2, W1, W2, W3, W4, ⟨P7.1.1, P7.1.2.1, P7.1.2.2⟩⟩
          refine AllReadyH.cons (o := ⟨some 11, _, _, _, _, none⟩) rfl (fun K hK => ?_) AllReadyH.nil
          go_simp
          have NB11 : Hid (Below v0.heap.size v0 (v0.alloc (.cells #[.int .u64 0, .int .u64 0, .int .u64 0, .int .u64 0, .int .i64 0, .int .u64 0, .bool false, .int .u64 0, .int .i64 0, .int .u64 0, .int .u64 0, .int .u64 0, .int .u64 0] 31))) := Go.Joins.below_alloc1 _ _
          have n11 : Hid (Blk (v0.alloc (.cells #[.int .u64 0, .int .u64 0, .int .u64 0, .int .u64 0, .int .i64 0, .int .u64 0, .bool false, .int .u64 0, .int .i64 0, .int .u64 0, .int .u64 0, .int .u64 0, .int .u64 0] 31)) v0.heap.size [.int .u64 0, .int .u64 0, .int .u64 0, .int .u64 0, .int .i64 0, .int .u64 0, .bool false, .int .u64 0, .int .i64 0, .int .u64 0, .int .u64 0, .int .u64 0, .int .u64 0] 31) := Blk.made _ _ _
          have N11 : Hid ((v0.heap.size ≠ w.heap.size ∧ v0.heap.size ≠ bt ∧ v0.heap.size ≠ w.heap.size + 1) ∧ v0.heap.size ≠ bq ∧ w.heap.size ≤ v0.heap.size) := ⟨⟨by have := blk_lt hH.1; omega, by have := blk_lt hH.2.1; omega, by have := blk_lt hH.2.2.2.2.2; omega⟩, by have := hH.2.2.2.2.1; omega, Below.size hH.2.2.2.1⟩
          refine hK.out _ _ ⟨Blk.below hH.1 NB11.out, Blk.below hH.2.1 NB11.out, range_below hH.2.2.1.out NB11.out hH.2.2.2.2.1, below_then hH.2.2.2.1 NB11.out, Nat.lt_of_lt_of_le hH.2.2.2.2.1 (Below.size NB11.out), Blk.below hH.2.2.2.2.2 NB11.out⟩ (fun hH11 => ?_)
          clear hK K hH NB11 
          try simp only [Act.put, List.setIfInBounds_toArray, List.set_cons_zero, List.set_cons_succ]
          generalize v0.alloc (.cells #[.int .u64 0, .int .u64 0, .int .u64 0, .int .u64 0, .int .i64 0, .int .u64 0, .bool false, .int .u64 0, .int .i64 0, .int .u64 0, .int .u64 0, .int .u64 0, .int .u64 0] 31) = v11 at hH11 n11  ⊢
          generalize v0.heap.size = b8 at n11 N11 ⊢
          have Qb8 : Hid _ := N11
          refine wpAnyH_ready (rs := [6, 11]) (by kernel_rfl) (by simp) ?_
          refine AllReadyH.cons (o := ⟨some 69, _, _, _, _, none⟩) rfl (fun K hK => ?_) ?_
          · go_simp
            go_wp2_with (go_at_call 9; refine (CD.out _).mono ?_; rintro e v12 ⟨rfl, hb⟩)
            have mb812 : Hid (Blk v12 b8 [.int .u64 0, .int .u64 0, .int .u64 0, .int .u64 0, .int .i64 0, .int .u64 0, .bool false, .int .u64 0, .int .i64 0, .int .u64 0, .int .u64 0, .int .u64 0, .int .u64 0] 31) := Blk.below n11.out hb
            refine hK.out _ _ ⟨Blk.below hH11.1 hb, Blk.below hH11.2.1 hb, range_below hH11.2.2.1.out hb hH11.2.2.2.2.1, below_then hH11.2.2.2.1 hb, Nat.lt_of_lt_of_le hH11.2.2.2.2.1 (Below.size hb), Blk.below hH11.2.2.2.2.2 hb⟩ (fun hH12 => ?_)
            clear hK K hb hH11 n11
            try simp only [Act.put, List.setIfInBounds_toArray, List.set_cons_zero, List.set_cons_succ]
            refine wpAnyH_take (i := 7) (oi := ⟨some 62, _, _, _, _, none⟩) (v := ?_) rfl (by kernel_rfl) (by kernel_rfl) (by kernel_rfl) (fun _ _ _ h => h) (Or.inl ⟨by rfl, ?_⟩) (by assumption) ?_
            rotate_left
            · intro w hSw; (try dsimp only at hSw); go_simp; (try with_reducible rfl)
            try simp only [Act.put, List.setIfInBounds_toArray, List.set_cons_zero, List.set_cons_succ]
            refine wpAnyH_take (i := 8) (oi := ⟨some 70, _, _, _, _, none⟩) (v := ?_) rfl (by kernel_rfl) (by kernel_rfl) (by kernel_rfl) (fun _ _ _ h => h) (Or.inl ⟨by rfl, ?_⟩) (by assumption) ?_
            rotate_left
            · intro w hSw; (try dsimp only at hSw); go_simp; (try with_reducible rfl)
            try simp only [Act.put, List.setIfInBounds_toArray, List.set_cons_zero, List.set_cons_succ]
            refine wpAnyH_take (i := 9) (oi := ⟨some 71, _, _, _, _, none⟩) (v := ?_) rfl (by kernel_rfl) (by kernel_rfl) (by kernel_rfl) (fun _ _ _ h => h) (Or.inl ⟨by rfl, ?_⟩) (by assumption) ?_
            rotate_left
            · intro w hSw; (try dsimp only at hSw); go_simp; (try with_reducible rfl)
            try simp only [Act.put, List.setIfInBounds_toArray, List.set_cons_zero, List.set_cons_succ]
            refine wpAnyH_take (i := 10) (oi := ⟨some 72, _, _, _, _, none⟩) (v := ?_) rfl (by kernel_rfl) (by kernel_rfl) (by kernel_rfl) (fun _ _ _ h => h) (Or.inl ⟨by rfl, ?_⟩) (by assumption) ?_
            rotate_left
            · intro w hSw; (try dsimp only at hSw); go_simp; (try with_reducible rfl)
            try simp only [Act.put, List.setIfInBounds_toArray, List.set_cons_zero, List.set_cons_succ]
            refine wpAnyH_ready (rs := [11]) (by kernel_rfl) (by simp) ?_
            refine AllReadyH.cons (o := ⟨some 10, _, _, _, _, none⟩) rfl (fun K hK => ?_) AllReadyH.nil
            go_simp
            have NB13 : Hid (Below v12.heap.size v12 (v12.alloc (.cells #[.int .u64 0, .int .u64 0, .int .u64 0, .int .u64 0, .int .i64 0, .int .u64 0, .bool false, .int .u64 0, .int .i64 0, .int .u64 0, .int .u64 0, .int .u64 0, .int .u64 0] 28))) := Go.Joins.below_alloc1 _ _
            have mb813 := Blk.below mb812.out NB13.out
            have mb813 : Hid _ := mb813
            have n13 : Hid (Blk (v12.alloc (.cells #[.int .u64 0, .int .u64 0, .int .u64 0, .int .u64 0, .int .i64 0, .int .u64 0, .bool false, .int .u64 0, .int .i64 0, .int .u64 0, .int .u64 0, .int .u64 0, .int .u64 0] 28)) v12.heap.size [.int .u64 0, .int .u64 0, .int .u64 0, .int .u64 0, .int .i64 0, .int .u64 0, .bool false, .int .u64 0, .int .i64 0, .int .u64 0, .int .u64 0, .int .u64 0, .int .u64 0] 28) := Blk.made _ _ _
            have N13 : Hid ((v12.heap.size ≠ w.heap.size ∧ v12.heap.size ≠ bt ∧ v12.heap.size ≠ w.heap.size + 1) ∧ v12.heap.size ≠ bq ∧ w.heap.size ≤ v12.heap.size ∧ v12.heap.size ≠ b8) := ⟨⟨by have := blk_lt hH12.1; omega, by have := blk_lt hH12.2.1; omega, by have := blk_lt hH12.2.2.2.2.2; omega⟩, by have := hH12.2.2.2.2.1; omega, Below.size hH12.2.2.2.1, by have := blk_lt mb812.out; omega⟩
            refine hK.out _ _ ⟨Blk.below hH12.1 NB13.out, Blk.below hH12.2.1 NB13.out, range_below hH12.2.2.1.out NB13.out hH12.2.2.2.2.1, below_then hH12.2.2.2.1 NB13.out, Nat.lt_of_lt_of_le hH12.2.2.2.2.1 (Below.size NB13.out), Blk.below hH12.2.2.2.2.2 NB13.out⟩ (fun hH13 => ?_)
            clear hK K hH12 NB13 mb812
            try simp only [Act.put, List.setIfInBounds_toArray, List.set_cons_zero, List.set_cons_succ]
            generalize v12.alloc (.cells #[.int .u64 0, .int .u64 0, .int .u64 0, .int .u64 0, .int .i64 0, .int .u64 0, .bool false, .int .u64 0, .int .i64 0, .int .u64 0, .int .u64 0, .int .u64 0, .int .u64 0] 28) = v13 at hH13 n13 mb813 ⊢
            generalize v12.heap.size = b7 at n13 N13 ⊢
            have Qb7 : Hid _ := N13
            have P7 := Qb7.out
            have P8 := Qb8.out
            obtain ⟨j1, j2, j3, j4, j5, j6⟩ := hH13
            have i0 := (show (fun cw => Blk cw w.heap.size [.int .u64 r0, .int .u64 r1, .int .u64 r2, .int .u64 r3, .int .i64 t, .int .u64 en, .bool false, .int .u64 a, .int .i64 c, .int .u64 s0, .int .u64 s1, .int .u64 s2, .int .u64 s3] 28 ∧ Blk cw bt [.int .u64 x0, .int .u64 x1, .int .u64 x2, .int .u64 x3, .int .i64 tau, .int .u64 en, .bool true, .int .u64 fa, .int .i64 fc, .int .u64 r0, .int .u64 r1, .int .u64 r2, .int .u64 r3] 28 ∧ Hid (cw.rangeAt bq (oq + k * 8) [.int .i64 kd, .int .i64 op, .int .i64 a1, .int .i64 b, .int .i64 d, .int .u64 x, .int .u64 ga, .int .i64 gc]) ∧ Below w.heap.size w cw ∧ bq < cw.heap.size ∧ Blk cw (w.heap.size + 1) [.int .u64 fa, .int .i64 fc] 26) v13 from ⟨j1, j2, j3, j4, j5, j6⟩)
            refine wpAnyH_ready (rs := [13]) (by kernel_rfl) (by simp) ?_
            refine AllReadyH.cons (o := ⟨none, .store 28 (.tmp 10) (.tmp 70), _, _, _, none⟩) rfl (fun K hK => ?_) AllReadyH.nil
            refine wanted_mp rfl ?_
            have th : v13.there b7 0 13 := Blk.there n13.out
            refine wp_store_mid _ _ _ rfl b7 0 #[.int .u64 y0, .int .u64 y1, .int .u64 y2, .int .u64 y3, .int .i64 ty, .int .u64 en, .bool true, .int .u64 fa, .int .i64 fc, .int .u64 r0, .int .u64 r1, .int .u64 r2, .int .u64 r3] rfl rfl th st_info (by simp [Value.oneCell']) ?_
            refine hK.out _ _ ?_ (fun i1 => ?_)
            · exact ⟨Blk.scs j1 (by omega) _ 0, Blk.scs j2 (by omega) _ 0, World.rangeAt_setCells_apart j3.out _ 0 _ (Or.inl (by omega)), below_scs j4 (by omega) _ 0, by rw [size_scs]; exact j5, Blk.scs j6 (by omega) _ 0⟩
            clear hK K i0 th
            try simp only [Act.put, List.setIfInBounds_toArray, List.set_cons_zero, List.set_cons_succ]
            simp only [List.toList_toArray] at i1 ⊢
            have Fb7 : Hid (Blk (v13.setCells b7 0 [.int .u64 y0, .int .u64 y1, .int .u64 y2, .int .u64 y3, .int .i64 ty, .int .u64 en, .bool true, .int .u64 fa, .int .i64 fc, .int .u64 r0, .int .u64 r1, .int .u64 r2, .int .u64 r3]) b7 [.int .u64 y0, .int .u64 y1, .int .u64 y2, .int .u64 y3, .int .i64 ty, .int .u64 en, .bool true, .int .u64 fa, .int .i64 fc, .int .u64 r0, .int .u64 r1, .int .u64 r2, .int .u64 r3] 28) := Blk.scsame n13.out _ 0
            have F2 := Blk.scs (c := b7) mb813.out (by omega) [.int .u64 y0, .int .u64 y1, .int .u64 y2, .int .u64 y3, .int .i64 ty, .int .u64 en, .bool true, .int .u64 fa, .int .i64 fc, .int .u64 r0, .int .u64 r1, .int .u64 r2, .int .u64 r3] 0
            have F2 : Hid _ := F2
            generalize v13.setCells b7 0 [.int .u64 y0, .int .u64 y1, .int .u64 y2, .int .u64 y3, .int .i64 ty, .int .u64 en, .bool true, .int .u64 fa, .int .i64 fc, .int .u64 r0, .int .u64 r1, .int .u64 r2, .int .u64 r3] = X1 at i1 Fb7 F2 ⊢
            clear j1 j2 j3 j4 j5 j6 n13 mb813
            obtain ⟨j1, j2, j3, j4, j5, j6⟩ := i1
            have G8 := F2
            clear F2
            have i2 := (show (fun cw => Blk cw w.heap.size [.int .u64 r0, .int .u64 r1, .int .u64 r2, .int .u64 r3, .int .i64 t, .int .u64 en, .bool false, .int .u64 a, .int .i64 c, .int .u64 s0, .int .u64 s1, .int .u64 s2, .int .u64 s3] 28 ∧ Blk cw bt [.int .u64 x0, .int .u64 x1, .int .u64 x2, .int .u64 x3, .int .i64 tau, .int .u64 en, .bool true, .int .u64 fa, .int .i64 fc, .int .u64 r0, .int .u64 r1, .int .u64 r2, .int .u64 r3] 28 ∧ Hid (cw.rangeAt bq (oq + k * 8) [.int .i64 kd, .int .i64 op, .int .i64 a1, .int .i64 b, .int .i64 d, .int .u64 x, .int .u64 ga, .int .i64 gc]) ∧ Below w.heap.size w cw ∧ bq < cw.heap.size ∧ Blk cw (w.heap.size + 1) [.int .u64 fa, .int .i64 fc] 26) X1 from ⟨j1, j2, j3, j4, j5, j6⟩)
            refine wpAnyH_ready (rs := [14]) (by kernel_rfl) (by simp) ?_
            refine AllReadyH.cons (o := ⟨none, .store 31 (.tmp 11) (.tmp 71), _, _, _, none⟩) rfl (fun K hK => ?_) AllReadyH.nil
            refine wanted_mp rfl ?_
            have th : X1.there b8 0 13 := Blk.there G8.out
            refine wp_store_mid _ _ _ rfl b8 0 #[.int .u64 q0, .int .u64 q1, .int .u64 q2, .int .u64 q3, .int .i64 q4, .int .u64 q5, .bool q6, .int .u64 q7, .int .i64 q8, .int .u64 q9, .int .u64 q10, .int .u64 q11, .int .u64 q12] rfl rfl th sx_info (by simp [Value.oneCell']) ?_
            refine hK.out _ _ ?_ (fun i3 => ?_)
            · exact ⟨Blk.scs j1 (by omega) _ 0, Blk.scs j2 (by omega) _ 0, World.rangeAt_setCells_apart j3.out _ 0 _ (Or.inl (by omega)), below_scs j4 (by omega) _ 0, by rw [size_scs]; exact j5, Blk.scs j6 (by omega) _ 0⟩
            clear hK K i2 th
            try simp only [Act.put, List.setIfInBounds_toArray, List.set_cons_zero, List.set_cons_succ]
            simp only [List.toList_toArray] at i3 ⊢
            have Fb8 : Hid (Blk (X1.setCells b8 0 [.int .u64 q0, .int .u64 q1, .int .u64 q2, .int .u64 q3, .int .i64 q4, .int .u64 q5, .bool q6, .int .u64 q7, .int .i64 q8, .int .u64 q9, .int .u64 q10, .int .u64 q11, .int .u64 q12]) b8 [.int .u64 q0, .int .u64 q1, .int .u64 q2, .int .u64 q3, .int .i64 q4, .int .u64 q5, .bool q6, .int .u64 q7, .int .i64 q8, .int .u64 q9, .int .u64 q10, .int .u64 q11, .int .u64 q12] 31) := Blk.scsame G8.out _ 0
            have F2 := Blk.scs (c := b8) Fb7.out (by omega) [.int .u64 q0, .int .u64 q1, .int .u64 q2, .int .u64 q3, .int .i64 q4, .int .u64 q5, .bool q6, .int .u64 q7, .int .i64 q8, .int .u64 q9, .int .u64 q10, .int .u64 q11, .int .u64 q12] 0
            have F2 : Hid _ := F2
            generalize X1.setCells b8 0 [.int .u64 q0, .int .u64 q1, .int .u64 q2, .int .u64 q3, .int .i64 q4, .int .u64 q5, .bool q6, .int .u64 q7, .int .i64 q8, .int .u64 q9, .int .u64 q10, .int .u64 q11, .int .u64 q12] = X2 at i3 Fb8 F2 ⊢
            clear j1 j2 j3 j4 j5 j6 G8 Fb7
            obtain ⟨j1, j2, j3, j4, j5, j6⟩ := i3
            have i3 := (show (fun cw => Blk cw w.heap.size [.int .u64 r0, .int .u64 r1, .int .u64 r2, .int .u64 r3, .int .i64 t, .int .u64 en, .bool false, .int .u64 a, .int .i64 c, .int .u64 s0, .int .u64 s1, .int .u64 s2, .int .u64 s3] 28 ∧ Blk cw bt [.int .u64 x0, .int .u64 x1, .int .u64 x2, .int .u64 x3, .int .i64 tau, .int .u64 en, .bool true, .int .u64 fa, .int .i64 fc, .int .u64 r0, .int .u64 r1, .int .u64 r2, .int .u64 r3] 28 ∧ Hid (cw.rangeAt bq (oq + k * 8) [.int .i64 kd, .int .i64 op, .int .i64 a1, .int .i64 b, .int .i64 d, .int .u64 x, .int .u64 ga, .int .i64 gc]) ∧ Below w.heap.size w cw ∧ bq < cw.heap.size ∧ Blk cw (w.heap.size + 1) [.int .u64 fa, .int .i64 fc] 26) X2 from ⟨j1, j2, j3, j4, j5, j6⟩)
            refine wpAnyH_take (i := 15) (oi := ⟨some 12, _, _, _, _, none⟩) (v := ?_) rfl (by kernel_rfl) (by kernel_rfl) (by kernel_rfl) (fun _ _ _ h => h) (Or.inl ⟨by rfl, ?_⟩) (by assumption) ?_
            rotate_left
            · intro w hSw; (try dsimp only at hSw); go_simp; (try with_reducible rfl)
            try simp only [Act.put, List.setIfInBounds_toArray, List.set_cons_zero, List.set_cons_succ]
            have W1 : Hid (Blk X2 w.heap.size [.int .u64 r0, .int .u64 r1, .int .u64 r2, .int .u64 r3, .int .i64 t, .int .u64 en, .bool false, .int .u64 a, .int .i64 c, .int .u64 s0, .int .u64 s1, .int .u64 s2, .int .u64 s3] 28) := j1
            have W2 : Hid (Blk X2 bt [.int .u64 x0, .int .u64 x1, .int .u64 x2, .int .u64 x3, .int .i64 tau, .int .u64 en, .bool true, .int .u64 fa, .int .i64 fc, .int .u64 r0, .int .u64 r1, .int .u64 r2, .int .u64 r3] 28) := j2
            have W3 : Hid (Below w.heap.size w X2) := j4
            have W4 : Hid (Blk X2 (w.heap.size + 1) [.int .u64 fa, .int .i64 fc] 26) := j6
            clear j1 j2 j3 j4 j5 j6 i3
            refine wpAnyH_done (by kernel_rfl) ?_ _
            refine NoPanic.normal ?_
            try go_wp2_with fail
            go_meet
            exact ⟨b7, b8, bz, rfl, rfl, rfl, F2, W1, W2, W3, W4, ⟨P7.1.1, P7.1.2.1, P7.1.2.2⟩⟩
          refine AllReadyH.cons (o := ⟨some 10, _, _, _, _, none⟩) rfl (fun K hK => ?_) AllReadyH.nil
          go_simp
          have NB14 : Hid (Below v11.heap.size v11 (v11.alloc (.cells #[.int .u64 0, .int .u64 0, .int .u64 0, .int .u64 0, .int .i64 0, .int .u64 0, .bool false, .int .u64 0, .int .i64 0, .int .u64 0, .int .u64 0, .int .u64 0, .int .u64 0] 28))) := Go.Joins.below_alloc1 _ _
          have mb814 := Blk.below n11.out NB14.out
          have mb814 : Hid _ := mb814
          have n14 : Hid (Blk (v11.alloc (.cells #[.int .u64 0, .int .u64 0, .int .u64 0, .int .u64 0, .int .i64 0, .int .u64 0, .bool false, .int .u64 0, .int .i64 0, .int .u64 0, .int .u64 0, .int .u64 0, .int .u64 0] 28)) v11.heap.size [.int .u64 0, .int .u64 0, .int .u64 0, .int .u64 0, .int .i64 0, .int .u64 0, .bool false, .int .u64 0, .int .i64 0, .int .u64 0, .int .u64 0, .int .u64 0, .int .u64 0] 28) := Blk.made _ _ _
          have N14 : Hid ((v11.heap.size ≠ w.heap.size ∧ v11.heap.size ≠ bt ∧ v11.heap.size ≠ w.heap.size + 1) ∧ v11.heap.size ≠ bq ∧ w.heap.size ≤ v11.heap.size ∧ v11.heap.size ≠ b8) := ⟨⟨by have := blk_lt hH11.1; omega, by have := blk_lt hH11.2.1; omega, by have := blk_lt hH11.2.2.2.2.2; omega⟩, by have := hH11.2.2.2.2.1; omega, Below.size hH11.2.2.2.1, by have := blk_lt n11.out; omega⟩
          refine hK.out _ _ ⟨Blk.below hH11.1 NB14.out, Blk.below hH11.2.1 NB14.out, range_below hH11.2.2.1.out NB14.out hH11.2.2.2.2.1, below_then hH11.2.2.2.1 NB14.out, Nat.lt_of_lt_of_le hH11.2.2.2.2.1 (Below.size NB14.out), Blk.below hH11.2.2.2.2.2 NB14.out⟩ (fun hH14 => ?_)
          clear hK K hH11 NB14 n11
          try simp only [Act.put, List.setIfInBounds_toArray, List.set_cons_zero, List.set_cons_succ]
          generalize v11.alloc (.cells #[.int .u64 0, .int .u64 0, .int .u64 0, .int .u64 0, .int .i64 0, .int .u64 0, .bool false, .int .u64 0, .int .i64 0, .int .u64 0, .int .u64 0, .int .u64 0, .int .u64 0] 28) = v14 at hH14 n14 mb814 ⊢
          generalize v11.heap.size = b7 at n14 N14 ⊢
          have Qb7 : Hid _ := N14
          refine wpAnyH_ready (rs := [6]) (by kernel_rfl) (by simp) ?_
          refine AllReadyH.cons (o := ⟨some 69, _, _, _, _, none⟩) rfl (fun K hK => ?_) AllReadyH.nil
          go_simp
          go_wp2_with (go_at_call 9; refine (CD.out _).mono ?_; rintro e v15 ⟨rfl, hb⟩)
          have mb815 : Hid (Blk v15 b8 [.int .u64 0, .int .u64 0, .int .u64 0, .int .u64 0, .int .i64 0, .int .u64 0, .bool false, .int .u64 0, .int .i64 0, .int .u64 0, .int .u64 0, .int .u64 0, .int .u64 0] 31) := Blk.below mb814.out hb
          have mb715 : Hid (Blk v15 b7 [.int .u64 0, .int .u64 0, .int .u64 0, .int .u64 0, .int .i64 0, .int .u64 0, .bool false, .int .u64 0, .int .i64 0, .int .u64 0, .int .u64 0, .int .u64 0, .int .u64 0] 28) := Blk.below n14.out hb
          refine hK.out _ _ ⟨Blk.below hH14.1 hb, Blk.below hH14.2.1 hb, range_below hH14.2.2.1.out hb hH14.2.2.2.2.1, below_then hH14.2.2.2.1 hb, Nat.lt_of_lt_of_le hH14.2.2.2.2.1 (Below.size hb), Blk.below hH14.2.2.2.2.2 hb⟩ (fun hH15 => ?_)
          clear hK K hb hH14 mb814 n14
          try simp only [Act.put, List.setIfInBounds_toArray, List.set_cons_zero, List.set_cons_succ]
          refine wpAnyH_take (i := 7) (oi := ⟨some 62, _, _, _, _, none⟩) (v := ?_) rfl (by kernel_rfl) (by kernel_rfl) (by kernel_rfl) (fun _ _ _ h => h) (Or.inl ⟨by rfl, ?_⟩) (by assumption) ?_
          rotate_left
          · intro w hSw; (try dsimp only at hSw); go_simp; (try with_reducible rfl)
          try simp only [Act.put, List.setIfInBounds_toArray, List.set_cons_zero, List.set_cons_succ]
          refine wpAnyH_take (i := 8) (oi := ⟨some 70, _, _, _, _, none⟩) (v := ?_) rfl (by kernel_rfl) (by kernel_rfl) (by kernel_rfl) (fun _ _ _ h => h) (Or.inl ⟨by rfl, ?_⟩) (by assumption) ?_
          rotate_left
          · intro w hSw; (try dsimp only at hSw); go_simp; (try with_reducible rfl)
          try simp only [Act.put, List.setIfInBounds_toArray, List.set_cons_zero, List.set_cons_succ]
          refine wpAnyH_take (i := 9) (oi := ⟨some 71, _, _, _, _, none⟩) (v := ?_) rfl (by kernel_rfl) (by kernel_rfl) (by kernel_rfl) (fun _ _ _ h => h) (Or.inl ⟨by rfl, ?_⟩) (by assumption) ?_
          rotate_left
          · intro w hSw; (try dsimp only at hSw); go_simp; (try with_reducible rfl)
          try simp only [Act.put, List.setIfInBounds_toArray, List.set_cons_zero, List.set_cons_succ]
          refine wpAnyH_take (i := 10) (oi := ⟨some 72, _, _, _, _, none⟩) (v := ?_) rfl (by kernel_rfl) (by kernel_rfl) (by kernel_rfl) (fun _ _ _ h => h) (Or.inl ⟨by rfl, ?_⟩) (by assumption) ?_
          rotate_left
          · intro w hSw; (try dsimp only at hSw); go_simp; (try with_reducible rfl)
          try simp only [Act.put, List.setIfInBounds_toArray, List.set_cons_zero, List.set_cons_succ]
          have P7 := Qb7.out
          have P8 := Qb8.out
          obtain ⟨j1, j2, j3, j4, j5, j6⟩ := hH15
          have i0 := (show (fun cw => Blk cw w.heap.size [.int .u64 r0, .int .u64 r1, .int .u64 r2, .int .u64 r3, .int .i64 t, .int .u64 en, .bool false, .int .u64 a, .int .i64 c, .int .u64 s0, .int .u64 s1, .int .u64 s2, .int .u64 s3] 28 ∧ Blk cw bt [.int .u64 x0, .int .u64 x1, .int .u64 x2, .int .u64 x3, .int .i64 tau, .int .u64 en, .bool true, .int .u64 fa, .int .i64 fc, .int .u64 r0, .int .u64 r1, .int .u64 r2, .int .u64 r3] 28 ∧ Hid (cw.rangeAt bq (oq + k * 8) [.int .i64 kd, .int .i64 op, .int .i64 a1, .int .i64 b, .int .i64 d, .int .u64 x, .int .u64 ga, .int .i64 gc]) ∧ Below w.heap.size w cw ∧ bq < cw.heap.size ∧ Blk cw (w.heap.size + 1) [.int .u64 fa, .int .i64 fc] 26) v15 from ⟨j1, j2, j3, j4, j5, j6⟩)
          refine wpAnyH_ready (rs := [13]) (by kernel_rfl) (by simp) ?_
          refine AllReadyH.cons (o := ⟨none, .store 28 (.tmp 10) (.tmp 70), _, _, _, none⟩) rfl (fun K hK => ?_) AllReadyH.nil
          refine wanted_mp rfl ?_
          have th : v15.there b7 0 13 := Blk.there mb715.out
          refine wp_store_mid _ _ _ rfl b7 0 #[.int .u64 y0, .int .u64 y1, .int .u64 y2, .int .u64 y3, .int .i64 ty, .int .u64 en, .bool true, .int .u64 fa, .int .i64 fc, .int .u64 r0, .int .u64 r1, .int .u64 r2, .int .u64 r3] rfl rfl th st_info (by simp [Value.oneCell']) ?_
          refine hK.out _ _ ?_ (fun i1 => ?_)
          · exact ⟨Blk.scs j1 (by omega) _ 0, Blk.scs j2 (by omega) _ 0, World.rangeAt_setCells_apart j3.out _ 0 _ (Or.inl (by omega)), below_scs j4 (by omega) _ 0, by rw [size_scs]; exact j5, Blk.scs j6 (by omega) _ 0⟩
          clear hK K i0 th
          try simp only [Act.put, List.setIfInBounds_toArray, List.set_cons_zero, List.set_cons_succ]
          simp only [List.toList_toArray] at i1 ⊢
          have Fb7 : Hid (Blk (v15.setCells b7 0 [.int .u64 y0, .int .u64 y1, .int .u64 y2, .int .u64 y3, .int .i64 ty, .int .u64 en, .bool true, .int .u64 fa, .int .i64 fc, .int .u64 r0, .int .u64 r1, .int .u64 r2, .int .u64 r3]) b7 [.int .u64 y0, .int .u64 y1, .int .u64 y2, .int .u64 y3, .int .i64 ty, .int .u64 en, .bool true, .int .u64 fa, .int .i64 fc, .int .u64 r0, .int .u64 r1, .int .u64 r2, .int .u64 r3] 28) := Blk.scsame mb715.out _ 0
          have F2 := Blk.scs (c := b7) mb815.out (by omega) [.int .u64 y0, .int .u64 y1, .int .u64 y2, .int .u64 y3, .int .i64 ty, .int .u64 en, .bool true, .int .u64 fa, .int .i64 fc, .int .u64 r0, .int .u64 r1, .int .u64 r2, .int .u64 r3] 0
          have F2 : Hid _ := F2
          generalize v15.setCells b7 0 [.int .u64 y0, .int .u64 y1, .int .u64 y2, .int .u64 y3, .int .i64 ty, .int .u64 en, .bool true, .int .u64 fa, .int .i64 fc, .int .u64 r0, .int .u64 r1, .int .u64 r2, .int .u64 r3] = X1 at i1 Fb7 F2 ⊢
          clear j1 j2 j3 j4 j5 j6 mb715 mb815
          obtain ⟨j1, j2, j3, j4, j5, j6⟩ := i1
          have G8 := F2
          clear F2
          have i2 := (show (fun cw => Blk cw w.heap.size [.int .u64 r0, .int .u64 r1, .int .u64 r2, .int .u64 r3, .int .i64 t, .int .u64 en, .bool false, .int .u64 a, .int .i64 c, .int .u64 s0, .int .u64 s1, .int .u64 s2, .int .u64 s3] 28 ∧ Blk cw bt [.int .u64 x0, .int .u64 x1, .int .u64 x2, .int .u64 x3, .int .i64 tau, .int .u64 en, .bool true, .int .u64 fa, .int .i64 fc, .int .u64 r0, .int .u64 r1, .int .u64 r2, .int .u64 r3] 28 ∧ Hid (cw.rangeAt bq (oq + k * 8) [.int .i64 kd, .int .i64 op, .int .i64 a1, .int .i64 b, .int .i64 d, .int .u64 x, .int .u64 ga, .int .i64 gc]) ∧ Below w.heap.size w cw ∧ bq < cw.heap.size ∧ Blk cw (w.heap.size + 1) [.int .u64 fa, .int .i64 fc] 26) X1 from ⟨j1, j2, j3, j4, j5, j6⟩)
          refine wpAnyH_ready (rs := [14]) (by kernel_rfl) (by simp) ?_
          refine AllReadyH.cons (o := ⟨none, .store 31 (.tmp 11) (.tmp 71), _, _, _, none⟩) rfl (fun K hK => ?_) AllReadyH.nil
          refine wanted_mp rfl ?_
          have th : X1.there b8 0 13 := Blk.there G8.out
          refine wp_store_mid _ _ _ rfl b8 0 #[.int .u64 q0, .int .u64 q1, .int .u64 q2, .int .u64 q3, .int .i64 q4, .int .u64 q5, .bool q6, .int .u64 q7, .int .i64 q8, .int .u64 q9, .int .u64 q10, .int .u64 q11, .int .u64 q12] rfl rfl th sx_info (by simp [Value.oneCell']) ?_
          refine hK.out _ _ ?_ (fun i3 => ?_)
          · exact ⟨Blk.scs j1 (by omega) _ 0, Blk.scs j2 (by omega) _ 0, World.rangeAt_setCells_apart j3.out _ 0 _ (Or.inl (by omega)), below_scs j4 (by omega) _ 0, by rw [size_scs]; exact j5, Blk.scs j6 (by omega) _ 0⟩
          clear hK K i2 th
          try simp only [Act.put, List.setIfInBounds_toArray, List.set_cons_zero, List.set_cons_succ]
          simp only [List.toList_toArray] at i3 ⊢
          have Fb8 : Hid (Blk (X1.setCells b8 0 [.int .u64 q0, .int .u64 q1, .int .u64 q2, .int .u64 q3, .int .i64 q4, .int .u64 q5, .bool q6, .int .u64 q7, .int .i64 q8, .int .u64 q9, .int .u64 q10, .int .u64 q11, .int .u64 q12]) b8 [.int .u64 q0, .int .u64 q1, .int .u64 q2, .int .u64 q3, .int .i64 q4, .int .u64 q5, .bool q6, .int .u64 q7, .int .i64 q8, .int .u64 q9, .int .u64 q10, .int .u64 q11, .int .u64 q12] 31) := Blk.scsame G8.out _ 0
          have F2 := Blk.scs (c := b8) Fb7.out (by omega) [.int .u64 q0, .int .u64 q1, .int .u64 q2, .int .u64 q3, .int .i64 q4, .int .u64 q5, .bool q6, .int .u64 q7, .int .i64 q8, .int .u64 q9, .int .u64 q10, .int .u64 q11, .int .u64 q12] 0
          have F2 : Hid _ := F2
          generalize X1.setCells b8 0 [.int .u64 q0, .int .u64 q1, .int .u64 q2, .int .u64 q3, .int .i64 q4, .int .u64 q5, .bool q6, .int .u64 q7, .int .i64 q8, .int .u64 q9, .int .u64 q10, .int .u64 q11, .int .u64 q12] = X2 at i3 Fb8 F2 ⊢
          clear j1 j2 j3 j4 j5 j6 G8 Fb7
          obtain ⟨j1, j2, j3, j4, j5, j6⟩ := i3
          have i3 := (show (fun cw => Blk cw w.heap.size [.int .u64 r0, .int .u64 r1, .int .u64 r2, .int .u64 r3, .int .i64 t, .int .u64 en, .bool false, .int .u64 a, .int .i64 c, .int .u64 s0, .int .u64 s1, .int .u64 s2, .int .u64 s3] 28 ∧ Blk cw bt [.int .u64 x0, .int .u64 x1, .int .u64 x2, .int .u64 x3, .int .i64 tau, .int .u64 en, .bool true, .int .u64 fa, .int .i64 fc, .int .u64 r0, .int .u64 r1, .int .u64 r2, .int .u64 r3] 28 ∧ Hid (cw.rangeAt bq (oq + k * 8) [.int .i64 kd, .int .i64 op, .int .i64 a1, .int .i64 b, .int .i64 d, .int .u64 x, .int .u64 ga, .int .i64 gc]) ∧ Below w.heap.size w cw ∧ bq < cw.heap.size ∧ Blk cw (w.heap.size + 1) [.int .u64 fa, .int .i64 fc] 26) X2 from ⟨j1, j2, j3, j4, j5, j6⟩)
          refine wpAnyH_take (i := 15) (oi := ⟨some 12, _, _, _, _, none⟩) (v := ?_) rfl (by kernel_rfl) (by kernel_rfl) (by kernel_rfl) (fun _ _ _ h => h) (Or.inl ⟨by rfl, ?_⟩) (by assumption) ?_
          rotate_left
          · intro w hSw; (try dsimp only at hSw); go_simp; (try with_reducible rfl)
          try simp only [Act.put, List.setIfInBounds_toArray, List.set_cons_zero, List.set_cons_succ]
          have W1 : Hid (Blk X2 w.heap.size [.int .u64 r0, .int .u64 r1, .int .u64 r2, .int .u64 r3, .int .i64 t, .int .u64 en, .bool false, .int .u64 a, .int .i64 c, .int .u64 s0, .int .u64 s1, .int .u64 s2, .int .u64 s3] 28) := j1
          have W2 : Hid (Blk X2 bt [.int .u64 x0, .int .u64 x1, .int .u64 x2, .int .u64 x3, .int .i64 tau, .int .u64 en, .bool true, .int .u64 fa, .int .i64 fc, .int .u64 r0, .int .u64 r1, .int .u64 r2, .int .u64 r3] 28) := j2
          have W3 : Hid (Below w.heap.size w X2) := j4
          have W4 : Hid (Blk X2 (w.heap.size + 1) [.int .u64 fa, .int .i64 fc] 26) := j6
          clear j1 j2 j3 j4 j5 j6 i3
          refine wpAnyH_done (by kernel_rfl) ?_ _
          refine NoPanic.normal ?_
          try go_wp2_with fail
          go_meet
          exact ⟨b7, b8, bz, rfl, rfl, rfl, F2, W1, W2, W3, W4, ⟨P7.1.1, P7.1.2.1, P7.1.2.2⟩⟩
        case rest =>
          clear Zs Zt Zf ACT BW lq2 CD DOES HA
          obtain ⟨b7, b8, bz, rfl, rfl, rfl, F7, Z1, Z2, BW2, Z4, NN⟩ := hcut
          have N7 := NN.out
          have NX1 := NX.out
          go_upto_region 9 with fail
          refine wp_region_lit ?_
          refine load_pat b7 0 [.int .u64 y0, .int .u64 y1, .int .u64 y2, .int .u64 y3, .int .i64 ty, .int .u64 en, .bool true, .int .u64 fa, .int .i64 fc, .int .u64 r0, .int .u64 r1, .int .u64 r2, .int .u64 r3] _ rfl (Blk.range F7.out) Try.underlying28 rfl st_info ?_
          have th : wc.there bt 0 13 := Blk.there Z2.out
          refine store_pat bt 0 #[.int .u64 y0, .int .u64 y1, .int .u64 y2, .int .u64 y3, .int .i64 ty, .int .u64 en, .bool true, .int .u64 fa, .int .i64 fc, .int .u64 r0, .int .u64 r1, .int .u64 r2, .int .u64 r3] rfl rfl th st_info (by simp [Value.oneCell']) ?_
          clear th
          simp only [List.toList_toArray]
          have D1 : Hid (Blk (wc.setCells bt 0 [.int .u64 y0, .int .u64 y1, .int .u64 y2, .int .u64 y3, .int .i64 ty, .int .u64 en, .bool true, .int .u64 fa, .int .i64 fc, .int .u64 r0, .int .u64 r1, .int .u64 r2, .int .u64 r3]) bt [.int .u64 y0, .int .u64 y1, .int .u64 y2, .int .u64 y3, .int .i64 ty, .int .u64 en, .bool true, .int .u64 fa, .int .i64 fc, .int .u64 r0, .int .u64 r1, .int .u64 r2, .int .u64 r3] 28) := Blk.scsame Z2.out _ 0
          have D2 : Hid (Blk (wc.setCells bt 0 [.int .u64 y0, .int .u64 y1, .int .u64 y2, .int .u64 y3, .int .i64 ty, .int .u64 en, .bool true, .int .u64 fa, .int .i64 fc, .int .u64 r0, .int .u64 r1, .int .u64 r2, .int .u64 r3]) w.heap.size [.int .u64 r0, .int .u64 r1, .int .u64 r2, .int .u64 r3, .int .i64 t, .int .u64 en, .bool false, .int .u64 a, .int .i64 c, .int .u64 s0, .int .u64 s1, .int .u64 s2, .int .u64 s3] 28) := Blk.scs Z1.out (by omega) _ 0
          have D3 : Hid (Blk (wc.setCells bt 0 [.int .u64 y0, .int .u64 y1, .int .u64 y2, .int .u64 y3, .int .i64 ty, .int .u64 en, .bool true, .int .u64 fa, .int .i64 fc, .int .u64 r0, .int .u64 r1, .int .u64 r2, .int .u64 r3]) (w.heap.size + 1) [.int .u64 fa, .int .i64 fc] 26) := Blk.scs Z4.out (by omega) _ 0
          have D4 : Hid (Below w.heap.size w (wc.setCells bt 0 [.int .u64 y0, .int .u64 y1, .int .u64 y2, .int .u64 y3, .int .i64 ty, .int .u64 en, .bool true, .int .u64 fa, .int .i64 fc, .int .u64 r0, .int .u64 r1, .int .u64 r2, .int .u64 r3])) := below_scs BW2.out (by omega) _ 0
          generalize wc.setCells bt 0 [.int .u64 y0, .int .u64 y1, .int .u64 y2, .int .u64 y3, .int .i64 ty, .int .u64 en, .bool true, .int .u64 fa, .int .i64 fc, .int .u64 r0, .int .u64 r1, .int .u64 r2, .int .u64 r3] = X9 at D1 D2 D3 D4 ⊢
          clear F7 Z1 Z2 Z4 BW2 NN N7
          go_wp2_with fail
          go_roundw
          case rel => exact ⟨k + 1, y0, y1, y2, y3, ty, by omega, by omega, by go_num, HW, D2, D3, D1, D4⟩
          case measure => simp [intOf]; omega

theorem own : ownKnob Try.prog.godebug = none := by kernel_rfl
theorem laidOut : laidOutB Try.prog = true := by kernel_rfl
set_option maxRecDepth 100000 in
theorem lifted (os : Os) (started : os.Started) (H : Type) (enc : TypeId × Value → H) :
    ReturnsInHanded {} Try.checked os 4 .any (Rows.trapBackSpec.pre6 enc Try.prog Try.f4 Rows.trapBackRow.domain false) (Rows.trapBackSpec.post enc Try.prog Try.f4 false true false false) := by
  refine returnsInHanded_of_change (C := Try.checked) own started (by kernel_rfl) Try.func4
    (ChangeSpec.witness6 (enc := enc) (C := Try.checked) false ⟨#[], #[.agg #[.int .u64 0, .int .u64 0, .int .u64 0, .int .u64 0, .int .i64 0, .int .u64 0, .bool false, .int .u64 0, .int .i64 0, .int .u64 0, .int .u64 0, .int .u64 0, .int .u64 0], .agg #[.int .u64 0, .int .i64 0], .slice none 0 0], []⟩ 8 (by kernel_rfl) (by kernel_rfl) (by kernel_rfl) (by kernel_rfl)) ?_
  intro W base args ds gs before hval0 hW hcnd _
  have hval : ∀ (j : Nat) t v, Try.f4.params[j]? = some t → args[j]? = some v → Value.okWide Try.prog W .any base t v := hval0
  have hW' := hW
  obtain ⟨p, q, hA0, hV, hbef, hfz, hnd⟩ := hW
  have hA : DataW.TrodAll enc Try.prog W 0 (fun _ => true) true Try.f4.params.toList args.toList ds p := hA0
  have hAk := hA
  have hlt : ∀ x ∈ p, x.block < W.heap.size := fun x hx => hW'.lt x (by rw [hbef]; exact List.mem_append_left _ hx)
  rw [Try.params4] at hA hval
  obtain ⟨v0, vs0, d0, ds0, p0, q0, hargs, rfl, hp0, h0, r0⟩ := trodAll_cons hA
  obtain ⟨v1, vs1, d1, ds1, p1, q1, rfl, rfl, hp1, h1, r1⟩ := trodAll_cons r0
  obtain ⟨v2, vs2, d2, ds2, p2, q2, rfl, rfl, hp2, h2, r2⟩ := trodAll_cons r1
  obtain ⟨rfl, rfl, hpz⟩ := trodAll_nil r2
  obtain rfl : args = #[v0, v1, v2] := by cases args; simp_all
  obtain ⟨rfl, rfl⟩ := trodVars_none hV
  obtain ⟨s0, rfl, w0⟩ := open_st (hval 0 28 v0 rfl rfl) h0
  obtain ⟨f1, rfl, w1⟩ := open_ft (hval 1 26 v1 rfl rfl) h1
  obtain ⟨p2, n2, c2, A2, rfl, m2, H2⟩ := open_acts (hval 2 29 v2 rfl rfl) h2
  clear hA0 hval0
  refine (walk s0 w0 f1 w1 p2 n2 c2 A2 m2 W H2).mono fun e W' ⟨he, hg⟩ => ?_
  subst he
  exact ⟨_, rfl, ⟨_, _, _, [], p, [], hW', (trodAll_cons_mk (shut_bool Try.underlying4 _) trodAll_mk0), args_stay laidOut hg (by kernel_rfl) hAk hlt, rfl, hg.frame _, fun h => by cases h⟩⟩

theorem over : Rows.trapBackRow.holds Try.pinned (OpenSpec.ofChange Rows.trapBackSpec) :=
  OpenClaim.holds_of_wide 4 Try.f4 rfl rfl rfl rfl rfl rfl rfl ⟨rfl, rfl, rfl, rfl, rfl⟩ rfl rfl rfl rfl rfl (by kernel_rfl) Try.func4 (by kernel_rfl)
    (of_decide_eq_true (by kernel_rfl)) (by unfold Func.isWrapper; first | (rw [if_pos (by decide +kernel)]; kernel_rfl) | (rw [if_neg (by decide +kernel)]; exact ⟨rfl, rfl⟩))
    (fun os started H enc _ => lifted os started H enc)

theorem proved : Rows.TrapBackSaid :=
  over
#print axioms proved
end Go.Proofs.Ytcieglidghnidaa.trapBack
