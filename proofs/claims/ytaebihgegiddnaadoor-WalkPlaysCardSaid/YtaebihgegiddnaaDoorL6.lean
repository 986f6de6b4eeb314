/- awake of layer 4. -/
import Derived.Test.YtaebihgegiddnaaDoorL5
import Derived.Laws.StructEq
namespace Go.Proofs.YtaebihgegiddnaaDoor
open Go.ChangeShapes Go.WideShapes Go.ChangeAt Go.RowKit Go.Maps
set_option linter.unusedSimpArgs false
set_option linter.unusedVariables false
set_option maxRecDepth 8000

theorem lay_ex (p : Option Addr) (n c : Nat) (A : Nat → Pt) (hn : n ≤ maxLen) (w : World) (h : IsPuts w p n A) :
    Calls Tryd.prog 5 #[.slice p n c] w fun e w' => ∃ (rb g mb xb : Nat) (K : Nat → Prop) (S : List Nat), e = .returned (.tuple #[.pointer (some ⟨rb, 0, none⟩), .agg #[.int .i64 8, .slice (some ⟨g, 0, none⟩) 1 1, .map (some mb)]]) ∧ Play w w' K S rb 8 [(7, 8)] g 1 mb xb (layM A (min n 40)) (layM A (min n 40)) 80 320 :=
  (lay_any p n c A hn w h).mono fun e w' ⟨rb, he, K, S, hp⟩ => ⟨rb, _, _, _, K, S, he, hp⟩
theorem eqUw (d : Nat) (a b : Int) (W : World) : (Op.equalIn (d + 1) 32 (.int .u64 a) (.int .u64 b)).run Tryd.prog W = .ok (a == b) W := run_equalIn_int W d _ .u64 .u64 a b Tryd.underlying32
theorem eqIw (d : Nat) (a b : Int) (W : World) : (Op.equalIn (d + 1) 3 (.int .i64 a) (.int .i64 b)).run Tryd.prog W = .ok (a == b) W := run_equalIn_int W d _ .i64 .i64 a b Tryd.underlying3
theorem eqFt (d : Nat) (a b a' b' : Int) (W : World) : (Op.equalIn (d + 2) 42 (.agg #[.int .u64 a, .int .i64 b]) (.agg #[.int .u64 a', .int .i64 b'])).run Tryd.prog W = .ok (a == a' && b == b') W := by
  rw [run_equalIn_struct W (d + 1) 42 _ _ (by kernel_rfl) (by kernel_rfl)]
  have p0 : ∀ (x y : Value) (W : World), (part 32 #[x, y] 0).run Tryd.prog W = .ok x W := fun x y W => by kernel_rfl
  have p1 : ∀ (x y : Value) (W : World), (part 3 #[x, y] 1).run Tryd.prog W = .ok y W := fun x y W => by kernel_rfl
  simp only [Program.fieldsOf, Tryd.underlying42]
  simp [Op.eqFields, p0, p1, eqIw, eqUw]
  cases h1 : (a == a') <;> cases h2 : (b == b') <;> simp_all
theorem eqFault (a b a' b' : Int) (W : World) : (binOp .eql 42 (.agg #[.int .u64 a, .int .i64 b]) (.agg #[.int .u64 a', .int .i64 b'])).run Tryd.prog W = .ok (.bool (a == a' && b == b')) W := by
  have := eqFt 9998 a b a' b' W
  simp only [binOp, Op.equal, Sem.run_bind]
  rw [show Op.maxDepth = 9998 + 2 from rfl, this]; rfl
theorem aw1_is : ∃ (pw1 pu1 px1 g1 l1 d1 : Bool) (fa1 fc1 : Int), aw1.val = .tuple #[.agg #[.int .i64 4, .bool pw1, .bool pu1, .bool px1, .bool g1, .bool l1, .bool d1], .agg #[.int .u64 fa1, .int .i64 fc1], .int .i64 0] :=
  ⟨aw1.pw, aw1.pu, aw1.px, aw1.g, aw1.l, aw1.d, aw1.fa, aw1.fc, by unfold WR.val; rw [aw1_says.1, aw1_says.2]⟩
theorem aw2_is : ∃ (pw2 pu2 px2 g2 l2 d2 : Bool) (fr2 : Int), aw2.val = .tuple #[.agg #[.int .i64 fr2, .bool pw2, .bool pu2, .bool px2, .bool g2, .bool l2, .bool d2], .agg #[.int .u64 4096, .int .i64 7], .int .i64 9] :=
  ⟨aw2.pw, aw2.pu, aw2.px, aw2.g, aw2.l, aw2.d, aw2.fr, by unfold WR.val; rw [aw2_says.1, aw2_says.2.1, aw2_says.2.2]⟩
theorem puts4 (w : World) : IsPuts (w.alloc (.cells #[.int .i64 0, .int .i64 0, .int .u64 4103, .int .i64 1, .int .i64 0, .int .u64 8199, .int .i64 2, .int .i64 0, .int .u64 12295, .int .i64 3, .int .i64 1, .int .u64 16389] 69)) (some ⟨w.heap.size, 0, none⟩) 4 A4 := by
  have q := own_new w (.cells #[.int .i64 0, .int .i64 0, .int .u64 4103, .int .i64 1, .int .i64 0, .int .u64 8199, .int .i64 2, .int .i64 0, .int .u64 12295, .int .i64 3, .int .i64 1, .int .u64 16389] 69)
  intro i hi
  refine ⟨w.heap.size, 0, rfl, by rw [World.size_alloc]; omega, ?_⟩
  match i, hi with
  | 0, _ => exact ⟨Go.Joins.cell_of_block q 0, Go.Joins.cell_of_block q 1, Go.Joins.cell_of_block q 2, by decide⟩
  | 1, _ => exact ⟨Go.Joins.cell_of_block q 3, Go.Joins.cell_of_block q 4, Go.Joins.cell_of_block q 5, by decide⟩
  | 2, _ => exact ⟨Go.Joins.cell_of_block q 6, Go.Joins.cell_of_block q 7, Go.Joins.cell_of_block q 8, by decide⟩
  | 3, _ => exact ⟨Go.Joins.cell_of_block q 9, Go.Joins.cell_of_block q 10, Go.Joins.cell_of_block q 11, by decide⟩
set_option maxHeartbeats 8000000 in
theorem awake_any (w : World) (ht : Tab w) : Calls Tryd.prog 6 #[] w fun e w' => e = .returned (.bool true) ∧ Below w.heap.size w w' := by
  have mx : 1000 < maxLen := by decide +kernel
  have MX : Hid (1000 < maxLen) := mx
  clear mx
  have T1 : Hid (Tab (w.alloc (.cells #[.int .i64 0, .int .i64 0, .int .u64 4103, .int .i64 1, .int .i64 0, .int .u64 8199, .int .i64 2, .int .i64 0, .int .u64 12295, .int .i64 3, .int .i64 1, .int .u64 16389] 69))) := ht.keep (Go.Joins.below_alloc1 _ _)
  have LY : Hid (Calls Tryd.prog 5 #[.slice (some ⟨w.heap.size, 0, none⟩) 4 4] (w.alloc (.cells #[.int .i64 0, .int .i64 0, .int .u64 4103, .int .i64 1, .int .i64 0, .int .u64 8199, .int .i64 2, .int .i64 0, .int .u64 12295, .int .i64 3, .int .i64 1, .int .u64 16389] 69)) fun e w' => ∃ (rb g mb xb : Nat) (K : Nat → Prop) (S : List Nat), e = .returned (.tuple #[.pointer (some ⟨rb, 0, none⟩), .agg #[.int .i64 8, .slice (some ⟨g, 0, none⟩) 1 1, .map (some mb)]]) ∧ Play (w.alloc (.cells #[.int .i64 0, .int .i64 0, .int .u64 4103, .int .i64 1, .int .i64 0, .int .u64 8199, .int .i64 2, .int .i64 0, .int .u64 12295, .int .i64 3, .int .i64 1, .int .u64 16389] 69)) w' K S rb 8 [(7, 8)] g 1 mb xb (layM A4 4) (layM A4 4) 80 320) :=
    lay_ex _ 4 4 A4 (by have := MX.out; omega) (w.alloc (.cells #[.int .i64 0, .int .i64 0, .int .u64 4103, .int .i64 1, .int .i64 0, .int .u64 8199, .int .i64 2, .int .i64 0, .int .u64 12295, .int .i64 3, .int .i64 1, .int .u64 16389] 69)) (puts4 w)
  obtain ⟨pw1, pu1, px1, g1, l1, d1, fa1, fc1, v1⟩ := aw1_is
  obtain ⟨pw2, pu2, px2, g2, l2, d2, fr2, v2⟩ := aw2_is
  have V1 : Hid _ := v1
  have V2 : Hid _ := v2
  clear v1 v2 ht
  have EF : ∀ W : World, (binOp .eql 42 (.agg #[.int .u64 4096, .int .i64 7]) (.agg #[.int .u64 4096, .int .i64 7])).run Tryd.prog W = .ok (.bool true) W := fun W => (eqFault 4096 7 4096 7 W).trans (by simp)
  have BW : Hid (Below w.heap.size w (w.alloc (.cells #[.int .i64 0, .int .i64 0, .int .u64 4103, .int .i64 1, .int .i64 0, .int .u64 8199, .int .i64 2, .int .i64 0, .int .u64 12295, .int .i64 3, .int .i64 1, .int .u64 16389] 69))) := Go.Joins.below_alloc1 _ _
  go_enter Tryd.func6, Tryd.ntmps6
  go_wp2_with fail
  refine LY.out.mono ?_
  rintro e u1 ⟨rb, g, mb, xb, K, S, rfl, h1⟩
  have C1 : Hid (Calls Tryd.prog 7 #[.pointer (some ⟨rb, 0, none⟩), .int .i64 0, .int .u64 4096, .agg #[.bool false, .bool true, .bool false]] (u1.alloc (.cells #[.int .i64 8, .slice (some ⟨g, 0, none⟩) 1 1, .map (some mb)] 28)) fun e w' => e = .returned (.tuple #[.agg #[.int .i64 4, .bool pw1, .bool pu1, .bool px1, .bool g1, .bool l1, .bool d1], .agg #[.int .u64 fa1, .int .i64 fc1], .int .i64 0]) ∧ Play (w.alloc (.cells #[.int .i64 0, .int .i64 0, .int .u64 4103, .int .i64 1, .int .i64 0, .int .u64 8199, .int .i64 2, .int .i64 0, .int .u64 12295, .int .i64 3, .int .i64 1, .int .u64 16389] 69)) w' (fun j => K j ∨ j = u1.heap.size) S rb 8 [(7, 8)] g 1 mb xb aw1.M (layM A4 4) 88 320 ∧ Kept (fun j => K j ∨ j = u1.heap.size) (u1.alloc (.cells #[.int .i64 8, .slice (some ⟨g, 0, none⟩) 1 1, .map (some mb)] 28)) w') := by
    have q := walk_play (h1.add (.cells #[.int .i64 8, .slice (some ⟨g, 0, none⟩) 1 1, .map (some mb)] 28)) T1.out (by have := MX.out; omega) 0 4096 (by omega) (by omega) false true false
    refine Calls.mono q ?_
    rintro e w' ⟨he, hp⟩
    exact ⟨by rw [he]; exact congrArg _ V1.out, hp⟩
  clear LY h1
  go_wp2_with fail
  refine C1.out.mono ?_
  rintro e u2 ⟨rfl, h2, k2⟩
  have C2 : Hid (Calls Tryd.prog 7 #[.pointer (some ⟨rb, 0, none⟩), .int .i64 0, .int .u64 4096, .agg #[.bool true, .bool true, .bool false]] ((u2.alloc (.cells #[.int .i64 4, .bool pw1, .bool pu1, .bool px1, .bool g1, .bool l1, .bool d1] 40)).alloc (.cells #[.int .u64 fa1, .int .i64 fc1] 42)) fun e w' => e = .returned (.tuple #[.agg #[.int .i64 fr2, .bool pw2, .bool pu2, .bool px2, .bool g2, .bool l2, .bool d2], .agg #[.int .u64 4096, .int .i64 7], .int .i64 9]) ∧ Play (w.alloc (.cells #[.int .i64 0, .int .i64 0, .int .u64 4103, .int .i64 1, .int .i64 0, .int .u64 8199, .int .i64 2, .int .i64 0, .int .u64 12295, .int .i64 3, .int .i64 1, .int .u64 16389] 69)) w' (fun j => ((fun j => (fun j => K j ∨ j = u1.heap.size) j ∨ j = u2.heap.size) j) ∨ j = (u2.alloc (.cells #[.int .i64 4, .bool pw1, .bool pu1, .bool px1, .bool g1, .bool l1, .bool d1] 40)).heap.size) S rb 8 [(7, 8)] g 1 mb xb aw2.M (layM A4 4) 96 320 ∧ Kept (fun j => ((fun j => (fun j => K j ∨ j = u1.heap.size) j ∨ j = u2.heap.size) j) ∨ j = (u2.alloc (.cells #[.int .i64 4, .bool pw1, .bool pu1, .bool px1, .bool g1, .bool l1, .bool d1] 40)).heap.size) ((u2.alloc (.cells #[.int .i64 4, .bool pw1, .bool pu1, .bool px1, .bool g1, .bool l1, .bool d1] 40)).alloc (.cells #[.int .u64 fa1, .int .i64 fc1] 42)) w') := by
    have q := walk_play ((h2.add (.cells #[.int .i64 4, .bool pw1, .bool pu1, .bool px1, .bool g1, .bool l1, .bool d1] 40)).add (.cells #[.int .u64 fa1, .int .i64 fc1] 42)) T1.out (by have := MX.out; omega) 0 4096 (by omega) (by omega) true true false
    refine Calls.mono q ?_
    rintro e w' ⟨he, hp⟩
    exact ⟨by rw [he]; exact congrArg _ V2.out, hp⟩
  clear C1 h2 k2
  go_wp2_with fail
  refine C2.out.mono ?_
  rintro e u3 ⟨rfl, h3, k3⟩
  have c0 : u3.cell? ⟨u2.heap.size, 0, none⟩ = some (.int .i64 4) := by
    rw [World.cell?_of_block (a := ⟨u2.heap.size, 0, none⟩) (k3.block u2.heap.size (Or.inl (Or.inr rfl))), World.cell?_of_block (a := ⟨u2.heap.size, 0, none⟩) (heap_lt _ _ (show u2.heap.size < (u2.alloc (.cells #[.int .i64 4, .bool pw1, .bool pu1, .bool px1, .bool g1, .bool l1, .bool d1] 40)).heap.size by rw [World.size_alloc]; omega))]
    exact Go.Joins.cell_of_block (own_new u2 _) 0
  have l3 : u2.heap.size < u3.heap.size := Nat.lt_of_lt_of_le (by rw [World.size_alloc, World.size_alloc]; omega) k3.size
  have B3 : Hid (Below w.heap.size w u3) := below_next BW.out h3.bel
  clear C2 h3 k3
  go_wp2_with fail
  go_ret
  exact ⟨rfl, below_new (below_new B3.out _) _⟩
end Go.Proofs.YtaebihgegiddnaaDoor
