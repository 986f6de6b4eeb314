/- A state in a box; awake. -/
import Derived.Test.YtcieglidghnidaaAM
import Derived.Test.YtcieglidghnidaaA3
namespace Go.Proofs.Ytcieglidghnidaa
open Go.ChangeShapes Go.WideShapes Go.ChangeAt Go.RowKit Go.Maps
set_option linter.unusedSimpArgs false
set_option linter.unusedVariables false

theorem st_info : (Try.prog.info? 28).map (·.size) = some 13 := by kernel_rfl
theorem load_st {P0 : Unit} {ops : Array Oper} {rest : List Oper} {t : TypeId} {x : Operand} {q : Tmp} {pos : String} {af : Array Edge} {a : Act} {w : World} {Q : Exit → Act → World → Prop} (b : Nat) (cs : List Value) (hn : cs.length = 13) (hx : a.eval x = .pointer (some ⟨b, 0, none⟩)) (hc : Blk w b cs 28)
    (h : wpList Try.prog ops Q rest (a.put (some q) (.agg cs.toArray)) w) : wpList Try.prog ops Q ({ dst := some q, op := .load 28 x, type := t, pos := pos, after := af, guard := none } :: rest) a w :=
  load_pat b 0 cs _ hx hc.range Try.underlying28 rfl (by rw [hn]; exact st_info) h
set_option maxHeartbeats 4000000 in
theorem awake_any (w : World) : Calls Try.prog 8 #[] w fun e w' => e = .returned (.bool true) ∧ Below w.heap.size w w' := by
  have C1 : Hid (∀ W : World, Calls Try.prog 15 #[.agg #[.int .u64 0, .int .u64 0, .int .u64 0, .int .u64 0, .int .i64 0, .int .u64 0, .bool false, .int .u64 0, .int .i64 0, .int .u64 0, .int .u64 0, .int .u64 0, .int .u64 0], .int .u64 4096] W fun e w' => e = .returned (.tuple #[.agg #[.int .u64 0, .int .u64 0, .int .u64 0, .int .u64 0, .int .i64 0, .int .u64 4096, .bool false, .int .u64 0, .int .i64 0, .int .u64 0, .int .u64 0, .int .u64 0, .int .u64 0], .int .i64 0]) ∧ Below W.heap.size W w') := fun W => handle_ok 0 0 0 0 0 0 0 0 0 0 0 0 4096 W
  have C2 : Hid (∀ W : World, Calls Try.prog 10 #[.agg #[.int .u64 0, .int .u64 0, .int .u64 0, .int .u64 0, .int .i64 0, .int .u64 4096, .bool false, .int .u64 0, .int .i64 0, .int .u64 0, .int .u64 0, .int .u64 0, .int .u64 0], .agg #[.int .u64 9, .int .i64 6]] W fun e w' => e = .returned (.tuple #[.agg #[.int .u64 9, .int .u64 6, .int .u64 0, .int .u64 0, .int .i64 0, .int .u64 4096, .bool true, .int .u64 9, .int .i64 6, .int .u64 0, .int .u64 0, .int .u64 0, .int .u64 0], .int .i64 0]) ∧ Below W.heap.size W w') := fun W => raise_ok 0 0 0 0 0 4096 0 0 0 0 0 0 9 6 6 (by decide) (by decide) W
  have C3 : Hid (∀ W : World, Calls Try.prog 11 #[.agg #[.int .u64 9, .int .u64 6, .int .u64 0, .int .u64 0, .int .i64 0, .int .u64 4096, .bool true, .int .u64 9, .int .i64 6, .int .u64 0, .int .u64 0, .int .u64 0, .int .u64 0]] W fun e w' => e = .returned (.tuple #[.agg #[.int .u64 0, .int .u64 0, .int .u64 0, .int .u64 0, .int .i64 0, .int .u64 4096, .bool false, .int .u64 0, .int .i64 0, .int .u64 0, .int .u64 0, .int .u64 0, .int .u64 0], .int .i64 0]) ∧ Below W.heap.size W w') := fun W => return_ok 9 6 0 0 0 4096 9 6 0 0 0 0 W
  have E : ∀ W : World, (binOp .eql 28 (.agg #[.int .u64 0, .int .u64 0, .int .u64 0, .int .u64 0, .int .i64 0, .int .u64 4096, .bool false, .int .u64 0, .int .i64 0, .int .u64 0, .int .u64 0, .int .u64 0, .int .u64 0]) (.agg #[.int .u64 0, .int .u64 0, .int .u64 0, .int .u64 0, .int .i64 0, .int .u64 4096, .bool false, .int .u64 0, .int .i64 0, .int .u64 0, .int .u64 0, .int .u64 0, .int .u64 0])).run Try.prog W = .ok (.bool true) W := fun W => (eqS (St.mk 0 0 0 0 0 4096 false 0 0 0 0 0 0) (St.mk 0 0 0 0 0 4096 false 0 0 0 0 0 0) W).trans (by simp)
  go_enter Try.func8, Try.ntmps8
  go_wp2_with fail
  refine (C1.out _).mono ?_
  rintro e u1 ⟨rfl, hb⟩
  have B1 : Hid (Below w.heap.size w u1) := hb
  clear hb C1
  have Y1 : Hid (Blk (u1.alloc (.cells #[.int .u64 0, .int .u64 0, .int .u64 0, .int .u64 0, .int .i64 0, .int .u64 4096, .bool false, .int .u64 0, .int .i64 0, .int .u64 0, .int .u64 0, .int .u64 0, .int .u64 0] 28)) u1.heap.size [.int .u64 0, .int .u64 0, .int .u64 0, .int .u64 0, .int .i64 0, .int .u64 4096, .bool false, .int .u64 0, .int .i64 0, .int .u64 0, .int .u64 0, .int .u64 0, .int .u64 0] 28) := Blk.made u1 _ _
  go_wp2_with fail
  refine (C2.out _).mono ?_
  rintro e u2 ⟨rfl, hb⟩
  have B2 : Hid (Below w.heap.size w u2) := below_then (below_new B1.out _) hb
  have Y2 : Hid (Blk u2 u1.heap.size [.int .u64 0, .int .u64 0, .int .u64 0, .int .u64 0, .int .i64 0, .int .u64 4096, .bool false, .int .u64 0, .int .i64 0, .int .u64 0, .int .u64 0, .int .u64 0, .int .u64 0] 28) := Y1.out.below hb
  clear hb C2 B1 Y1
  have Z2 : Hid (Blk (u2.alloc (.cells #[.int .u64 9, .int .u64 6, .int .u64 0, .int .u64 0, .int .i64 0, .int .u64 4096, .bool true, .int .u64 9, .int .i64 6, .int .u64 0, .int .u64 0, .int .u64 0, .int .u64 0] 28)) u2.heap.size [.int .u64 9, .int .u64 6, .int .u64 0, .int .u64 0, .int .i64 0, .int .u64 4096, .bool true, .int .u64 9, .int .i64 6, .int .u64 0, .int .u64 0, .int .u64 0, .int .u64 0] 28) := Blk.made u2 _ _
  go_wp2_with fail
  refine (C3.out _).mono ?_
  rintro e u3 ⟨rfl, hb⟩
  have B3 : Hid (Below w.heap.size w u3) := below_then (below_new B2.out _) hb
  have Y3 : Hid (Blk u3 u1.heap.size [.int .u64 0, .int .u64 0, .int .u64 0, .int .u64 0, .int .i64 0, .int .u64 4096, .bool false, .int .u64 0, .int .i64 0, .int .u64 0, .int .u64 0, .int .u64 0, .int .u64 0] 28) := (Y2.out.below (Go.Joins.below_alloc1 _ _)).below hb
  have Z3 : Hid (Blk u3 u2.heap.size [.int .u64 9, .int .u64 6, .int .u64 0, .int .u64 0, .int .i64 0, .int .u64 4096, .bool true, .int .u64 9, .int .i64 6, .int .u64 0, .int .u64 0, .int .u64 0, .int .u64 0] 28) := Z2.out.below hb
  clear hb C3 B2 Y2 Z2
  have lt : u2.heap.size < u3.heap.size := blk_lt Z3.out
  have ne : u2.heap.size ≠ u3.heap.size := Nat.ne_of_lt lt
  have t0 : u3.cell? ⟨u2.heap.size, 0, none⟩ = some (.int .u64 9) := Z3.out.cell 0
  have t1 : u3.cell? ⟨u2.heap.size, 1, none⟩ = some (.int .u64 6) := Z3.out.cell 1
  have t6 : u3.cell? ⟨u2.heap.size, 6, none⟩ = some (.bool true) := Z3.out.cell 6
  have l1 : u1.heap.size < u3.heap.size := blk_lt Y3.out
  have k0 : u3.cell? ⟨u1.heap.size, 0, none⟩ = some (.int .u64 0) := Y3.out.cell 0
  have k1 : u3.cell? ⟨u1.heap.size, 1, none⟩ = some (.int .u64 0) := Y3.out.cell 1
  have k2 : u3.cell? ⟨u1.heap.size, 2, none⟩ = some (.int .u64 0) := Y3.out.cell 2
  have k3 : u3.cell? ⟨u1.heap.size, 3, none⟩ = some (.int .u64 0) := Y3.out.cell 3
  have k4 : u3.cell? ⟨u1.heap.size, 4, none⟩ = some (.int .i64 0) := Y3.out.cell 4
  have k5 : u3.cell? ⟨u1.heap.size, 5, none⟩ = some (.int .u64 4096) := Y3.out.cell 5
  have k6 : u3.cell? ⟨u1.heap.size, 6, none⟩ = some (.bool false) := Y3.out.cell 6
  have k7 : u3.cell? ⟨u1.heap.size, 7, none⟩ = some (.int .u64 0) := Y3.out.cell 7
  have k8 : u3.cell? ⟨u1.heap.size, 8, none⟩ = some (.int .i64 0) := Y3.out.cell 8
  have k9 : u3.cell? ⟨u1.heap.size, 9, none⟩ = some (.int .u64 0) := Y3.out.cell 9
  have k10 : u3.cell? ⟨u1.heap.size, 10, none⟩ = some (.int .u64 0) := Y3.out.cell 10
  have k11 : u3.cell? ⟨u1.heap.size, 11, none⟩ = some (.int .u64 0) := Y3.out.cell 11
  have k12 : u3.cell? ⟨u1.heap.size, 12, none⟩ = some (.int .u64 0) := Y3.out.cell 12
  go_wp2_with fail
  go_ret
  exact ⟨rfl, below_new B3.out _⟩
end Go.Proofs.Ytcieglidghnidaa
