/- Grants: the laws awake, told; the document on no grants. -/
import Derived.Test.YtenfdcjnfgjilaaS2
import Derived.Test.YtenfdcjnfgjilaaS3
import Derived.Test.YtenfdcjnfgjilaaSL
import Derived.Test.YtenfdcjnfgjilaaSR
import Derived.Test.YtenfdcjnfgjilaaS5
namespace Go.Proofs.Ytenfdcjnfgjilaa
open Go.ChangeShapes Go.WideShapes Go.ChangeAt Go.RowKit Go.Maps
set_option linter.unusedSimpArgs false
set_option linter.unusedVariables false
set_option maxRecDepth 8000
set_option maxRecDepth 8000
set_option maxRecDepth 8000

abbrev Gr.val7 (g : Gr) (i : Int) : Value := .agg #[.int .i64 i, .int .i64 g.fr, .int .i64 g.pg, .int .i64 g.dst, .bool g.wr, .bool g.tk, .int .i64 g.att]
set_option maxHeartbeats 1000000 in
theorem told_any (l : Gr) (i : Int) (w : World) : Calls Try.prog 15 #[l.val, .int .i64 i] w fun e w' => e = .returned (l.val7 i) ∧ Below w.heap.size w w' := by
  obtain ⟨lf, lp, ld, lw, lt, la⟩ := l
  go_enter Try.func15, Try.ntmps15
  go_wp2_with fail
  go_returns
  exact ⟨rfl, Go.Joins.below_alloc2 _ _ _⟩
def A1 : Nat → Gr := putT zT 32 ⟨2, 7, 3, true, false, 0⟩
def A2 : Nat → Gr := putT A1 32 ⟨2, 7, 3, true, true, 9⟩
theorem off_a : offI zT 2 7 3 = 32 ∧ offE zT 2 7 3 = 0 ∧ offT zT 2 7 3 true = A1 := by
  have fr : freeF zT ((2 : Int).toNat * 16) 16 = 32 := by decide +kernel
  have e1 : offE zT 2 7 3 = 0 := by decide +kernel
  refine ⟨by decide +kernel, e1, ?_⟩
  unfold offT; rw [if_pos e1, fr]; rfl
theorem acc_a1 : accE A1 32 4 9 = 5 ∧ accT A1 32 4 9 = A1 := by
  have e1 : accE A1 32 4 9 = 5 := by decide +kernel
  exact ⟨e1, by unfold accT; rw [e1]; rfl⟩
theorem acc_a2 : accE A1 32 3 9 = 0 ∧ accT A1 32 3 9 = A2 := by
  have e1 : accE A1 32 3 9 = 0 := by decide +kernel
  exact ⟨e1, by unfold accT; rw [if_pos e1]; rfl⟩
theorem acc_a3 : accE A2 32 3 9 = 11 ∧ accT A2 32 3 9 = A2 := by
  have e1 : accE A2 32 3 9 = 11 := by decide +kernel
  exact ⟨e1, by unfold accT; rw [e1]; rfl⟩
theorem lent_a : ((lentN A2 2 7 256 : Nat) : Int) = 1 := by decide +kernel
set_option maxHeartbeats 4000000 in
theorem awake_any (w : World) : Calls Try.prog 8 #[] w fun e w' => e = .returned (.bool true) ∧ Below w.heap.size w w' := by
  obtain ⟨Zs, hz, hs, hzz⟩ := zeroT
  have M : Hid (Own w (w.alloc (.cells Zs 27)) w.heap.size zT) := ⟨IsTab.made w Zs hs hzz, Go.Joins.below_alloc1 _ _, Nat.le_refl _⟩
  have C1 : Hid (∀ W : World, IsTab W w.heap.size zT → Calls Try.prog 17 #[.pointer (some ⟨w.heap.size, 0, none⟩), .int .i64 2, .int .i64 7, .int .i64 3, .bool true] W fun e w' => e = .returned (.tuple #[.int .i64 32, .int .i64 0]) ∧ IsTab w' w.heap.size A1 ∧ W.grownBy w' (some w.heap.size)) := fun W h => by
    have := offer_any w.heap.size zT 2 7 3 true W h; rwa [off_a.1, off_a.2.1, off_a.2.2] at this
  have C2 : Hid (∀ W : World, IsTab W w.heap.size A1 → Calls Try.prog 20 #[.pointer (some ⟨w.heap.size, 0, none⟩), .int .i64 32, .int .i64 4, .int .i64 9] W fun e w' => e = .returned (.int .i64 5) ∧ IsTab w' w.heap.size A1 ∧ W.grownBy w' (some w.heap.size)) := fun W h => by
    have := accept_any w.heap.size A1 32 4 9 W h; rwa [acc_a1.1, acc_a1.2] at this
  have C3 : Hid (∀ W : World, IsTab W w.heap.size A1 → Calls Try.prog 20 #[.pointer (some ⟨w.heap.size, 0, none⟩), .int .i64 32, .int .i64 3, .int .i64 9] W fun e w' => e = .returned (.int .i64 0) ∧ IsTab w' w.heap.size A2 ∧ W.grownBy w' (some w.heap.size)) := fun W h => by
    have := accept_any w.heap.size A1 32 3 9 W h; rwa [acc_a2.1, acc_a2.2] at this
  have C4 : Hid (∀ W : World, IsTab W w.heap.size A2 → Calls Try.prog 20 #[.pointer (some ⟨w.heap.size, 0, none⟩), .int .i64 32, .int .i64 3, .int .i64 9] W fun e w' => e = .returned (.int .i64 11) ∧ IsTab w' w.heap.size A2 ∧ W.grownBy w' (some w.heap.size)) := fun W h => by
    have := accept_any w.heap.size A2 32 3 9 W h; rwa [acc_a3.1, acc_a3.2] at this
  have C5 : Hid (∀ W : World, IsTab W w.heap.size A2 → Calls Try.prog 12 #[.pointer (some ⟨w.heap.size, 0, none⟩), .int .i64 2, .int .i64 7] W fun e w' => e = .returned (.int .i64 1) ∧ Below W.heap.size W w') := fun W h => by
    have := lent_any w.heap.size A2 2 7 W h; rwa [lent_a] at this
  clear hs hzz
  go_enter Try.func8, Try.ntmps8
  go_wp2_with fail
  refine (C1.out _ M.out.1).mono ?_
  rintro e u1 ⟨rfl, h1, h2⟩
  have M1 := (M.out.next h1 h2)
  have M1 : Hid (Own w u1 w.heap.size A1) := M1
  clear h1 h2 M
  go_wp2_with fail
  refine (C2.out _ M1.out.1).mono ?_
  rintro e u2 ⟨rfl, h1, h2⟩
  have M2 := (M1.out.next h1 h2)
  have M2 : Hid (Own w u2 w.heap.size A1) := M2
  clear h1 h2 M1
  go_wp2_with fail
  refine (C3.out _ M2.out.1).mono ?_
  rintro e u3 ⟨rfl, h1, h2⟩
  have M3 := (M2.out.next h1 h2)
  have M3 : Hid (Own w u3 w.heap.size A2) := M3
  clear h1 h2 M2
  go_wp2_with fail
  refine (C4.out _ M3.out.1).mono ?_
  rintro e u4 ⟨rfl, h1, h2⟩
  have M4 := (M3.out.next h1 h2)
  have M4 : Hid (Own w u4 w.heap.size A2) := M4
  clear h1 h2 M3
  go_wp2_with fail
  refine (C5.out _ M4.out.1).mono ?_
  rintro e u5 ⟨rfl, h1⟩
  have M5 : Hid (Own w u5 w.heap.size A2) := M4.out.grow h1
  clear h1 M4
  go_wp2_with fail
  go_ret
  exact ⟨rfl, M5.out.2.1⟩
set_option maxHeartbeats 1000000 in
theorem rfind_nil (i : Int) (w : World) : Calls Try.prog 16 #[.slice none 0 0, .int .i64 i] w fun e w' => e = .returned (.tuple #[.agg #[.int .i64 0, .int .i64 0, .int .i64 0, .int .i64 0, .bool false, .bool false, .int .i64 0], .bool false]) ∧ Below w.heap.size w w' := by
  go_enter Try.func16, Try.ntmps16
  go_wp2_with fail
  refine wp_loop_rounds 1 ?_
  rw [rounds_succ]
  go_wp2_with fail
  go_returns
  exact ⟨rfl, Go.Joins.below_alloc1 _ _⟩
set_option maxHeartbeats 1000000 in
theorem racc_nil (i o a : Int) (w : World) : Calls Try.prog 23 #[.slice none 0 0, .int .i64 i, .int .i64 o, .int .i64 a] w fun e w' => e = .returned (.tuple #[.slice none 0 0, .int .i64 5]) ∧ Below w.heap.size w w' := by
  have F : Hid (∀ w : World, Calls Try.prog 16 #[.slice none 0 0, .int .i64 i] w fun e w' => e = .returned (.tuple #[.agg #[.int .i64 0, .int .i64 0, .int .i64 0, .int .i64 0, .bool false, .bool false, .int .i64 0], .bool false]) ∧ Below w.heap.size w w') := fun w => rfind_nil i w
  go_enter Try.func23, Try.ntmps23
  go_wp2_with fail
  refine (F.out _).mono ?_
  rintro e u1 ⟨rfl, hb1⟩
  have B1 : Hid (Below w.heap.size w u1) := hb1
  clear hb1
  go_wp2_with fail
  go_returns
  exact ⟨rfl, below_new B1.out _⟩
end Go.Proofs.Ytenfdcjnfgjilaa
