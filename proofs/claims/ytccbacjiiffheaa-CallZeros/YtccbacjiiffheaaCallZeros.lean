/- For any words, any place and any number: words that a call doesn't use must be nought; no condition. -/
import Derived.Test.YtccbacjiiffheaaRows
import Derived.ProofKit
import Derived.OpenShut
import Derived.Carry
import Derived.Test.YtccbacjiiffheaaCN
namespace Go.Proofs.Ytccbacjiiffheaa.callZeros
open Go.ChangeShapes Go.WideShapes Go.ChangeAt Go.RowKit Go.Maps
set_option linter.unusedSimpArgs false
set_option linter.unusedVariables false

set_option maxRecDepth 8000 in
set_option maxHeartbeats 8000000 in
theorem walk (D0 : Wd) (w0 : D0.wf) (a1 : Int) (w1 : (Lit.int .i64 a1).wf = true) (a2 : Int) (w2 : (Lit.int .u64 a2).wf = true) (w : World)  :
    Calls Try.prog 5 #[D0.val, .int .i64 a1, .int .u64 a2] w fun e w' => e = .returned (.bool true) ∧ Below w.heap.size w w' := by
  have AWH : Hid (∀ W : World, Calls Try.prog 11 #[] W fun e w' => e = .returned (.bool true) ∧ Below W.heap.size W w') := fun W => awake_any W
  have US : Hid (∀ (x : Int) (W : World), Calls Try.prog 14 #[.int .u64 x] W fun e w' => e = .returned (.int .i64 (usedV x)) ∧ w' = W) := used_any
  obtain ⟨x0, x1, x2, x3, x4, x5⟩ := D0
  have Z0 : Hid (Blk (w.alloc (.cells #[.int .u64 x0, .int .u64 x1, .int .u64 x2, .int .u64 x3, .int .u64 x4, .int .u64 x5] 24)) w.heap.size [.int .u64 x0, .int .u64 x1, .int .u64 x2, .int .u64 x3, .int .u64 x4, .int .u64 x5] 24) := Blk.made w _ _
  by_cases hs : ∃ c, Says ⟨x0, x1, x2, x3, x4, x5⟩ c
  rotate_left
  · have R1 : Hid (∀ W : World, Calls Try.prog 9 #[.agg #[.int .u64 x0, .int .u64 x1, .int .u64 x2, .int .u64 x3, .int .u64 x4, .int .u64 x5]] W fun e w' => e = .returned (.tuple #[.agg #[.int .i64 0, .int .i64 0, .int .i64 0, .bool false, .bool false, .bool false, .int .u64 0, .int .i64 0, .int .u64 0, .int .i64 0, .int .i64 0, .int .i64 0, .int .i64 0], .int .i64 13]) ∧ Below W.heap.size W w') := fun W => read_no _ w0 hs W
    clear hs
    go_enter Try.func5, Try.ntmps5
    go_wp2_with fail
    refine (R1.out _).mono ?_
    rintro e u1 ⟨rfl, hb⟩
    have B1 : Hid (Below w.heap.size w u1) := below_then (Go.Joins.below_alloc1 _ _) hb
    have Z1 : Hid (Blk u1 w.heap.size [.int .u64 x0, .int .u64 x1, .int .u64 x2, .int .u64 x3, .int .u64 x4, .int .u64 x5] 24) := Z0.out.below hb
    clear hb
    have yc0 : u1.cell? ⟨w.heap.size, 0, none⟩ = some (.int .u64 x0) := Z1.out.cell 0
    have yf0 : u1.frozen? ⟨w.heap.size, 0, none⟩ = false := Z1.out.free 0
    have yc1 : u1.cell? ⟨w.heap.size, 1, none⟩ = some (.int .u64 x1) := Z1.out.cell 1
    have yf1 : u1.frozen? ⟨w.heap.size, 1, none⟩ = false := Z1.out.free 1
    have yc2 : u1.cell? ⟨w.heap.size, 2, none⟩ = some (.int .u64 x2) := Z1.out.cell 2
    have yf2 : u1.frozen? ⟨w.heap.size, 2, none⟩ = false := Z1.out.free 2
    have yc3 : u1.cell? ⟨w.heap.size, 3, none⟩ = some (.int .u64 x3) := Z1.out.cell 3
    have yf3 : u1.frozen? ⟨w.heap.size, 3, none⟩ = false := Z1.out.free 3
    have yc4 : u1.cell? ⟨w.heap.size, 4, none⟩ = some (.int .u64 x4) := Z1.out.cell 4
    have yf4 : u1.frozen? ⟨w.heap.size, 4, none⟩ = false := Z1.out.free 4
    have yc5 : u1.cell? ⟨w.heap.size, 5, none⟩ = some (.int .u64 x5) := Z1.out.cell 5
    have yf5 : u1.frozen? ⟨w.heap.size, 5, none⟩ = false := Z1.out.free 5
    have lt1 : w.heap.size < u1.heap.size := blk_lt Z1.out
    go_wp2_with fail
    refine (US.out _ _).mono ?_
    rintro e u2 ⟨rfl, hu⟩
    subst hu
    go_wp2_with fail
    refine (AWH.out _).mono ?_
    rintro e u9 ⟨rfl, hb⟩
    have B9 : Hid (Below w.heap.size w u9) := below_then (below_new B1.out _) hb
    clear hb
    go_wp2_with fail
    go_ret
    exact ⟨rfl, B9.out⟩
  obtain ⟨c, hs⟩ := hs
  have us := says_used hs
  have hu0 : 0 ≤ usedV x0 := us.1
  obtain ⟨c0, c1, c2, c3, c4, c5, c6, c7, c8, c9, c10, c11, c12⟩ := c
  have R1 : Hid (∀ W : World, Calls Try.prog 9 #[.agg #[.int .u64 x0, .int .u64 x1, .int .u64 x2, .int .u64 x3, .int .u64 x4, .int .u64 x5]] W fun e w' => e = .returned (.tuple #[.agg #[.int .i64 c0, .int .i64 c1, .int .i64 c2, .bool c3, .bool c4, .bool c5, .int .u64 c6, .int .i64 c7, .int .u64 c8, .int .i64 c9, .int .i64 c10, .int .i64 c11, .int .i64 c12], .int .i64 0]) ∧ Below W.heap.size W w') := fun W => read_yes _ w0 _ hs W
  generalize hU : usedV x0 = U at hu0
  have US2 : Hid (∀ W : World, Calls Try.prog 14 #[.int .u64 x0] W fun e w' => e = .returned (.int .i64 U) ∧ w' = W) := fun W => by have := US.out x0 W; rw [hU] at this; exact this
  by_cases q1 : a1 ≤ U
  · have dq1 : (decide (a1 ≤ U)) = true := by first | (simp; omega) | simp [q1]
    go_enter Try.func5, Try.ntmps5
    go_wp2_with fail
    refine (R1.out _).mono ?_
    rintro e u1 ⟨rfl, hb⟩
    have B1 : Hid (Below w.heap.size w u1) := below_then (Go.Joins.below_alloc1 _ _) hb
    have Z1 : Hid (Blk u1 w.heap.size [.int .u64 x0, .int .u64 x1, .int .u64 x2, .int .u64 x3, .int .u64 x4, .int .u64 x5] 24) := Z0.out.below hb
    clear hb
    have yc0 : u1.cell? ⟨w.heap.size, 0, none⟩ = some (.int .u64 x0) := Z1.out.cell 0
    have yf0 : u1.frozen? ⟨w.heap.size, 0, none⟩ = false := Z1.out.free 0
    have yc1 : u1.cell? ⟨w.heap.size, 1, none⟩ = some (.int .u64 x1) := Z1.out.cell 1
    have yf1 : u1.frozen? ⟨w.heap.size, 1, none⟩ = false := Z1.out.free 1
    have yc2 : u1.cell? ⟨w.heap.size, 2, none⟩ = some (.int .u64 x2) := Z1.out.cell 2
    have yf2 : u1.frozen? ⟨w.heap.size, 2, none⟩ = false := Z1.out.free 2
    have yc3 : u1.cell? ⟨w.heap.size, 3, none⟩ = some (.int .u64 x3) := Z1.out.cell 3
    have yf3 : u1.frozen? ⟨w.heap.size, 3, none⟩ = false := Z1.out.free 3
    have yc4 : u1.cell? ⟨w.heap.size, 4, none⟩ = some (.int .u64 x4) := Z1.out.cell 4
    have yf4 : u1.frozen? ⟨w.heap.size, 4, none⟩ = false := Z1.out.free 4
    have yc5 : u1.cell? ⟨w.heap.size, 5, none⟩ = some (.int .u64 x5) := Z1.out.cell 5
    have yf5 : u1.frozen? ⟨w.heap.size, 5, none⟩ = false := Z1.out.free 5
    have lt1 : w.heap.size < u1.heap.size := blk_lt Z1.out
    go_wp2_with fail
    refine (US2.out _).mono ?_
    rintro e u2 ⟨rfl, hu⟩
    subst hu
    go_wp2_with fail
    refine (AWH.out _).mono ?_
    rintro e u9 ⟨rfl, hb⟩
    have B9 : Hid (Below w.heap.size w u9) := below_then (below_new B1.out _) hb
    clear hb
    go_wp2_with fail
    go_ret
    exact ⟨rfl, B9.out⟩
  have dq1 : (decide (a1 ≤ U)) = false := by first | (simp; omega) | simp [q1]
  by_cases q2 : 5 < a1
  · have dq2 : (decide (5 < a1)) = true := by first | (simp; omega) | simp [q2]
    go_enter Try.func5, Try.ntmps5
    go_wp2_with fail
    refine (R1.out _).mono ?_
    rintro e u1 ⟨rfl, hb⟩
    have B1 : Hid (Below w.heap.size w u1) := below_then (Go.Joins.below_alloc1 _ _) hb
    have Z1 : Hid (Blk u1 w.heap.size [.int .u64 x0, .int .u64 x1, .int .u64 x2, .int .u64 x3, .int .u64 x4, .int .u64 x5] 24) := Z0.out.below hb
    clear hb
    have yc0 : u1.cell? ⟨w.heap.size, 0, none⟩ = some (.int .u64 x0) := Z1.out.cell 0
    have yf0 : u1.frozen? ⟨w.heap.size, 0, none⟩ = false := Z1.out.free 0
    have yc1 : u1.cell? ⟨w.heap.size, 1, none⟩ = some (.int .u64 x1) := Z1.out.cell 1
    have yf1 : u1.frozen? ⟨w.heap.size, 1, none⟩ = false := Z1.out.free 1
    have yc2 : u1.cell? ⟨w.heap.size, 2, none⟩ = some (.int .u64 x2) := Z1.out.cell 2
    have yf2 : u1.frozen? ⟨w.heap.size, 2, none⟩ = false := Z1.out.free 2
    have yc3 : u1.cell? ⟨w.heap.size, 3, none⟩ = some (.int .u64 x3) := Z1.out.cell 3
    have yf3 : u1.frozen? ⟨w.heap.size, 3, none⟩ = false := Z1.out.free 3
    have yc4 : u1.cell? ⟨w.heap.size, 4, none⟩ = some (.int .u64 x4) := Z1.out.cell 4
    have yf4 : u1.frozen? ⟨w.heap.size, 4, none⟩ = false := Z1.out.free 4
    have yc5 : u1.cell? ⟨w.heap.size, 5, none⟩ = some (.int .u64 x5) := Z1.out.cell 5
    have yf5 : u1.frozen? ⟨w.heap.size, 5, none⟩ = false := Z1.out.free 5
    have lt1 : w.heap.size < u1.heap.size := blk_lt Z1.out
    go_wp2_with fail
    refine (US2.out _).mono ?_
    rintro e u2 ⟨rfl, hu⟩
    subst hu
    go_wp2_with fail
    refine (AWH.out _).mono ?_
    rintro e u9 ⟨rfl, hb⟩
    have B9 : Hid (Below w.heap.size w u9) := below_then (below_new B1.out _) hb
    clear hb
    go_wp2_with fail
    go_ret
    exact ⟨rfl, B9.out⟩
  have dq2 : (decide (5 < a1)) = false := by first | (simp; omega) | simp [q2]
  by_cases q3 : a2 = 0
  · have dq3 : (a2 == 0) = true := by first | (simp; omega) | simp [q3]
    go_enter Try.func5, Try.ntmps5
    go_wp2_with fail
    refine (R1.out _).mono ?_
    rintro e u1 ⟨rfl, hb⟩
    have B1 : Hid (Below w.heap.size w u1) := below_then (Go.Joins.below_alloc1 _ _) hb
    have Z1 : Hid (Blk u1 w.heap.size [.int .u64 x0, .int .u64 x1, .int .u64 x2, .int .u64 x3, .int .u64 x4, .int .u64 x5] 24) := Z0.out.below hb
    clear hb
    have yc0 : u1.cell? ⟨w.heap.size, 0, none⟩ = some (.int .u64 x0) := Z1.out.cell 0
    have yf0 : u1.frozen? ⟨w.heap.size, 0, none⟩ = false := Z1.out.free 0
    have yc1 : u1.cell? ⟨w.heap.size, 1, none⟩ = some (.int .u64 x1) := Z1.out.cell 1
    have yf1 : u1.frozen? ⟨w.heap.size, 1, none⟩ = false := Z1.out.free 1
    have yc2 : u1.cell? ⟨w.heap.size, 2, none⟩ = some (.int .u64 x2) := Z1.out.cell 2
    have yf2 : u1.frozen? ⟨w.heap.size, 2, none⟩ = false := Z1.out.free 2
    have yc3 : u1.cell? ⟨w.heap.size, 3, none⟩ = some (.int .u64 x3) := Z1.out.cell 3
    have yf3 : u1.frozen? ⟨w.heap.size, 3, none⟩ = false := Z1.out.free 3
    have yc4 : u1.cell? ⟨w.heap.size, 4, none⟩ = some (.int .u64 x4) := Z1.out.cell 4
    have yf4 : u1.frozen? ⟨w.heap.size, 4, none⟩ = false := Z1.out.free 4
    have yc5 : u1.cell? ⟨w.heap.size, 5, none⟩ = some (.int .u64 x5) := Z1.out.cell 5
    have yf5 : u1.frozen? ⟨w.heap.size, 5, none⟩ = false := Z1.out.free 5
    have lt1 : w.heap.size < u1.heap.size := blk_lt Z1.out
    go_wp2_with fail
    refine (US2.out _).mono ?_
    rintro e u2 ⟨rfl, hu⟩
    subst hu
    go_wp2_with fail
    refine (AWH.out _).mono ?_
    rintro e u9 ⟨rfl, hb⟩
    have B9 : Hid (Below w.heap.size w u9) := below_then (below_new B1.out _) hb
    clear hb
    go_wp2_with fail
    go_ret
    exact ⟨rfl, B9.out⟩
  have dq3 : (a2 == 0) = false := by first | (simp; omega) | simp [q3]
  have hat : a1 = 1 ∨ a1 = 2 ∨ a1 = 3 ∨ a1 = 4 ∨ a1 = 5 := by omega
  rcases hat with rfl | rfl | rfl | rfl | rfl
  · have wf2 : (Wd.mk x0 a2 x2 x3 x4 x5).wf := fun k => by
      match k with
      | 0 => exact w0 0
      | 1 => exact wf_u64 w2
      | 2 => exact w0 2
      | 3 => exact w0 3
      | 4 => exact w0 4
      | 5 => exact w0 5
      | k + 6 => exact w0 (k + 6)
    have R2 : Hid (∀ W : World, Calls Try.prog 9 #[.agg #[.int .u64 x0, .int .u64 a2, .int .u64 x2, .int .u64 x3, .int .u64 x4, .int .u64 x5]] W fun e w' => e = .returned (.tuple #[.agg #[.int .i64 0, .int .i64 0, .int .i64 0, .bool false, .bool false, .bool false, .int .u64 0, .int .i64 0, .int .u64 0, .int .i64 0, .int .i64 0, .int .i64 0, .int .i64 0], .int .i64 13]) ∧ Below W.heap.size W w') := fun W => read_no _ wf2 (fun ⟨c, h⟩ => q3 (by have := (says_used h).2.2 1 (by show usedV x0 < ((1 : Nat) : Int); rw [hU]; omega) (by omega); exact this)) W
    clear wf2 hs us hU US w0
    go_enter Try.func5, Try.ntmps5
    go_wp2_with fail
    refine (R1.out _).mono ?_
    rintro e u1 ⟨rfl, hb⟩
    have B1 : Hid (Below w.heap.size w u1) := below_then (Go.Joins.below_alloc1 _ _) hb
    have Z1 : Hid (Blk u1 w.heap.size [.int .u64 x0, .int .u64 x1, .int .u64 x2, .int .u64 x3, .int .u64 x4, .int .u64 x5] 24) := Z0.out.below hb
    clear hb
    have yc0 : u1.cell? ⟨w.heap.size, 0, none⟩ = some (.int .u64 x0) := Z1.out.cell 0
    have yf0 : u1.frozen? ⟨w.heap.size, 0, none⟩ = false := Z1.out.free 0
    have yc1 : u1.cell? ⟨w.heap.size, 1, none⟩ = some (.int .u64 x1) := Z1.out.cell 1
    have yf1 : u1.frozen? ⟨w.heap.size, 1, none⟩ = false := Z1.out.free 1
    have yc2 : u1.cell? ⟨w.heap.size, 2, none⟩ = some (.int .u64 x2) := Z1.out.cell 2
    have yf2 : u1.frozen? ⟨w.heap.size, 2, none⟩ = false := Z1.out.free 2
    have yc3 : u1.cell? ⟨w.heap.size, 3, none⟩ = some (.int .u64 x3) := Z1.out.cell 3
    have yf3 : u1.frozen? ⟨w.heap.size, 3, none⟩ = false := Z1.out.free 3
    have yc4 : u1.cell? ⟨w.heap.size, 4, none⟩ = some (.int .u64 x4) := Z1.out.cell 4
    have yf4 : u1.frozen? ⟨w.heap.size, 4, none⟩ = false := Z1.out.free 4
    have yc5 : u1.cell? ⟨w.heap.size, 5, none⟩ = some (.int .u64 x5) := Z1.out.cell 5
    have yf5 : u1.frozen? ⟨w.heap.size, 5, none⟩ = false := Z1.out.free 5
    have lt1 : w.heap.size < u1.heap.size := blk_lt Z1.out
    go_wp2_with fail
    refine (US2.out _).mono ?_
    rintro e u2 ⟨rfl, hu⟩
    subst hu
    go_wp2_with fail
    have B2 : Hid (Below w.heap.size w ((u1.setCell ⟨w.heap.size, 1, none⟩ (.int .u64 a2)).alloc (.cells #[.int .i64 c0, .int .i64 c1, .int .i64 c2, .bool c3, .bool c4, .bool c5, .int .u64 c6, .int .i64 c7, .int .u64 c8, .int .i64 c9, .int .i64 c10, .int .i64 c11, .int .i64 c12] 30))) := below_new (B1.out.setCell (Nat.le_refl _) _) _
    refine (R2.out _).mono ?_
    rintro e u3 ⟨rfl, hb⟩
    have B3 : Hid (Below w.heap.size w u3) := below_then B2.out hb
    clear hb
    go_wp2_with fail
    refine (AWH.out _).mono ?_
    rintro e u9 ⟨rfl, hb⟩
    have B9 : Hid (Below w.heap.size w u9) := below_then (below_new B3.out _) hb
    clear hb
    go_wp2_with fail
    go_ret
    exact ⟨rfl, B9.out⟩
  · have wf2 : (Wd.mk x0 x1 a2 x3 x4 x5).wf := fun k => by
      match k with
      | 0 => exact w0 0
      | 1 => exact w0 1
      | 2 => exact wf_u64 w2
      | 3 => exact w0 3
      | 4 => exact w0 4
      | 5 => exact w0 5
      | k + 6 => exact w0 (k + 6)
    have R2 : Hid (∀ W : World, Calls Try.prog 9 #[.agg #[.int .u64 x0, .int .u64 x1, .int .u64 a2, .int .u64 x3, .int .u64 x4, .int .u64 x5]] W fun e w' => e = .returned (.tuple #[.agg #[.int .i64 0, .int .i64 0, .int .i64 0, .bool false, .bool false, .bool false, .int .u64 0, .int .i64 0, .int .u64 0, .int .i64 0, .int .i64 0, .int .i64 0, .int .i64 0], .int .i64 13]) ∧ Below W.heap.size W w') := fun W => read_no _ wf2 (fun ⟨c, h⟩ => q3 (by have := (says_used h).2.2 2 (by show usedV x0 < ((2 : Nat) : Int); rw [hU]; omega) (by omega); exact this)) W
    clear wf2 hs us hU US w0
    go_enter Try.func5, Try.ntmps5
    go_wp2_with fail
    refine (R1.out _).mono ?_
    rintro e u1 ⟨rfl, hb⟩
    have B1 : Hid (Below w.heap.size w u1) := below_then (Go.Joins.below_alloc1 _ _) hb
    have Z1 : Hid (Blk u1 w.heap.size [.int .u64 x0, .int .u64 x1, .int .u64 x2, .int .u64 x3, .int .u64 x4, .int .u64 x5] 24) := Z0.out.below hb
    clear hb
    have yc0 : u1.cell? ⟨w.heap.size, 0, none⟩ = some (.int .u64 x0) := Z1.out.cell 0
    have yf0 : u1.frozen? ⟨w.heap.size, 0, none⟩ = false := Z1.out.free 0
    have yc1 : u1.cell? ⟨w.heap.size, 1, none⟩ = some (.int .u64 x1) := Z1.out.cell 1
    have yf1 : u1.frozen? ⟨w.heap.size, 1, none⟩ = false := Z1.out.free 1
    have yc2 : u1.cell? ⟨w.heap.size, 2, none⟩ = some (.int .u64 x2) := Z1.out.cell 2
    have yf2 : u1.frozen? ⟨w.heap.size, 2, none⟩ = false := Z1.out.free 2
    have yc3 : u1.cell? ⟨w.heap.size, 3, none⟩ = some (.int .u64 x3) := Z1.out.cell 3
    have yf3 : u1.frozen? ⟨w.heap.size, 3, none⟩ = false := Z1.out.free 3
    have yc4 : u1.cell? ⟨w.heap.size, 4, none⟩ = some (.int .u64 x4) := Z1.out.cell 4
    have yf4 : u1.frozen? ⟨w.heap.size, 4, none⟩ = false := Z1.out.free 4
    have yc5 : u1.cell? ⟨w.heap.size, 5, none⟩ = some (.int .u64 x5) := Z1.out.cell 5
    have yf5 : u1.frozen? ⟨w.heap.size, 5, none⟩ = false := Z1.out.free 5
    have lt1 : w.heap.size < u1.heap.size := blk_lt Z1.out
    go_wp2_with fail
    refine (US2.out _).mono ?_
    rintro e u2 ⟨rfl, hu⟩
    subst hu
    go_wp2_with fail
    have B2 : Hid (Below w.heap.size w ((u1.setCell ⟨w.heap.size, 2, none⟩ (.int .u64 a2)).alloc (.cells #[.int .i64 c0, .int .i64 c1, .int .i64 c2, .bool c3, .bool c4, .bool c5, .int .u64 c6, .int .i64 c7, .int .u64 c8, .int .i64 c9, .int .i64 c10, .int .i64 c11, .int .i64 c12] 30))) := below_new (B1.out.setCell (Nat.le_refl _) _) _
    refine (R2.out _).mono ?_
    rintro e u3 ⟨rfl, hb⟩
    have B3 : Hid (Below w.heap.size w u3) := below_then B2.out hb
    clear hb
    go_wp2_with fail
    refine (AWH.out _).mono ?_
    rintro e u9 ⟨rfl, hb⟩
    have B9 : Hid (Below w.heap.size w u9) := below_then (below_new B3.out _) hb
    clear hb
    go_wp2_with fail
    go_ret
    exact ⟨rfl, B9.out⟩
  · have wf2 : (Wd.mk x0 x1 x2 a2 x4 x5).wf := fun k => by
      match k with
      | 0 => exact w0 0
      | 1 => exact w0 1
      | 2 => exact w0 2
      | 3 => exact wf_u64 w2
      | 4 => exact w0 4
      | 5 => exact w0 5
      | k + 6 => exact w0 (k + 6)
    have R2 : Hid (∀ W : World, Calls Try.prog 9 #[.agg #[.int .u64 x0, .int .u64 x1, .int .u64 x2, .int .u64 a2, .int .u64 x4, .int .u64 x5]] W fun e w' => e = .returned (.tuple #[.agg #[.int .i64 0, .int .i64 0, .int .i64 0, .bool false, .bool false, .bool false, .int .u64 0, .int .i64 0, .int .u64 0, .int .i64 0, .int .i64 0, .int .i64 0, .int .i64 0], .int .i64 13]) ∧ Below W.heap.size W w') := fun W => read_no _ wf2 (fun ⟨c, h⟩ => q3 (by have := (says_used h).2.2 3 (by show usedV x0 < ((3 : Nat) : Int); rw [hU]; omega) (by omega); exact this)) W
    clear wf2 hs us hU US w0
    go_enter Try.func5, Try.ntmps5
    go_wp2_with fail
    refine (R1.out _).mono ?_
    rintro e u1 ⟨rfl, hb⟩
    have B1 : Hid (Below w.heap.size w u1) := below_then (Go.Joins.below_alloc1 _ _) hb
    have Z1 : Hid (Blk u1 w.heap.size [.int .u64 x0, .int .u64 x1, .int .u64 x2, .int .u64 x3, .int .u64 x4, .int .u64 x5] 24) := Z0.out.below hb
    clear hb
    have yc0 : u1.cell? ⟨w.heap.size, 0, none⟩ = some (.int .u64 x0) := Z1.out.cell 0
    have yf0 : u1.frozen? ⟨w.heap.size, 0, none⟩ = false := Z1.out.free 0
    have yc1 : u1.cell? ⟨w.heap.size, 1, none⟩ = some (.int .u64 x1) := Z1.out.cell 1
    have yf1 : u1.frozen? ⟨w.heap.size, 1, none⟩ = false := Z1.out.free 1
    have yc2 : u1.cell? ⟨w.heap.size, 2, none⟩ = some (.int .u64 x2) := Z1.out.cell 2
    have yf2 : u1.frozen? ⟨w.heap.size, 2, none⟩ = false := Z1.out.free 2
    have yc3 : u1.cell? ⟨w.heap.size, 3, none⟩ = some (.int .u64 x3) := Z1.out.cell 3
    have yf3 : u1.frozen? ⟨w.heap.size, 3, none⟩ = false := Z1.out.free 3
    have yc4 : u1.cell? ⟨w.heap.size, 4, none⟩ = some (.int .u64 x4) := Z1.out.cell 4
    have yf4 : u1.frozen? ⟨w.heap.size, 4, none⟩ = false := Z1.out.free 4
    have yc5 : u1.cell? ⟨w.heap.size, 5, none⟩ = some (.int .u64 x5) := Z1.out.cell 5
    have yf5 : u1.frozen? ⟨w.heap.size, 5, none⟩ = false := Z1.out.free 5
    have lt1 : w.heap.size < u1.heap.size := blk_lt Z1.out
    go_wp2_with fail
    refine (US2.out _).mono ?_
    rintro e u2 ⟨rfl, hu⟩
    subst hu
    go_wp2_with fail
    have B2 : Hid (Below w.heap.size w ((u1.setCell ⟨w.heap.size, 3, none⟩ (.int .u64 a2)).alloc (.cells #[.int .i64 c0, .int .i64 c1, .int .i64 c2, .bool c3, .bool c4, .bool c5, .int .u64 c6, .int .i64 c7, .int .u64 c8, .int .i64 c9, .int .i64 c10, .int .i64 c11, .int .i64 c12] 30))) := below_new (B1.out.setCell (Nat.le_refl _) _) _
    refine (R2.out _).mono ?_
    rintro e u3 ⟨rfl, hb⟩
    have B3 : Hid (Below w.heap.size w u3) := below_then B2.out hb
    clear hb
    go_wp2_with fail
    refine (AWH.out _).mono ?_
    rintro e u9 ⟨rfl, hb⟩
    have B9 : Hid (Below w.heap.size w u9) := below_then (below_new B3.out _) hb
    clear hb
    go_wp2_with fail
    go_ret
    exact ⟨rfl, B9.out⟩
  · have wf2 : (Wd.mk x0 x1 x2 x3 a2 x5).wf := fun k => by
      match k with
      | 0 => exact w0 0
      | 1 => exact w0 1
      | 2 => exact w0 2
      | 3 => exact w0 3
      | 4 => exact wf_u64 w2
      | 5 => exact w0 5
      | k + 6 => exact w0 (k + 6)
    have R2 : Hid (∀ W : World, Calls Try.prog 9 #[.agg #[.int .u64 x0, .int .u64 x1, .int .u64 x2, .int .u64 x3, .int .u64 a2, .int .u64 x5]] W fun e w' => e = .returned (.tuple #[.agg #[.int .i64 0, .int .i64 0, .int .i64 0, .bool false, .bool false, .bool false, .int .u64 0, .int .i64 0, .int .u64 0, .int .i64 0, .int .i64 0, .int .i64 0, .int .i64 0], .int .i64 13]) ∧ Below W.heap.size W w') := fun W => read_no _ wf2 (fun ⟨c, h⟩ => q3 (by have := (says_used h).2.2 4 (by show usedV x0 < ((4 : Nat) : Int); rw [hU]; omega) (by omega); exact this)) W
    clear wf2 hs us hU US w0
    go_enter Try.func5, Try.ntmps5
    go_wp2_with fail
    refine (R1.out _).mono ?_
    rintro e u1 ⟨rfl, hb⟩
    have B1 : Hid (Below w.heap.size w u1) := below_then (Go.Joins.below_alloc1 _ _) hb
    have Z1 : Hid (Blk u1 w.heap.size [.int .u64 x0, .int .u64 x1, .int .u64 x2, .int .u64 x3, .int .u64 x4, .int .u64 x5] 24) := Z0.out.below hb
    clear hb
    have yc0 : u1.cell? ⟨w.heap.size, 0, none⟩ = some (.int .u64 x0) := Z1.out.cell 0
    have yf0 : u1.frozen? ⟨w.heap.size, 0, none⟩ = false := Z1.out.free 0
    have yc1 : u1.cell? ⟨w.heap.size, 1, none⟩ = some (.int .u64 x1) := Z1.out.cell 1
    have yf1 : u1.frozen? ⟨w.heap.size, 1, none⟩ = false := Z1.out.free 1
    have yc2 : u1.cell? ⟨w.heap.size, 2, none⟩ = some (.int .u64 x2) := Z1.out.cell 2
    have yf2 : u1.frozen? ⟨w.heap.size, 2, none⟩ = false := Z1.out.free 2
    have yc3 : u1.cell? ⟨w.heap.size, 3, none⟩ = some (.int .u64 x3) := Z1.out.cell 3
    have yf3 : u1.frozen? ⟨w.heap.size, 3, none⟩ = false := Z1.out.free 3
    have yc4 : u1.cell? ⟨w.heap.size, 4, none⟩ = some (.int .u64 x4) := Z1.out.cell 4
    have yf4 : u1.frozen? ⟨w.heap.size, 4, none⟩ = false := Z1.out.free 4
    have yc5 : u1.cell? ⟨w.heap.size, 5, none⟩ = some (.int .u64 x5) := Z1.out.cell 5
    have yf5 : u1.frozen? ⟨w.heap.size, 5, none⟩ = false := Z1.out.free 5
    have lt1 : w.heap.size < u1.heap.size := blk_lt Z1.out
    go_wp2_with fail
    refine (US2.out _).mono ?_
    rintro e u2 ⟨rfl, hu⟩
    subst hu
    go_wp2_with fail
    have B2 : Hid (Below w.heap.size w ((u1.setCell ⟨w.heap.size, 4, none⟩ (.int .u64 a2)).alloc (.cells #[.int .i64 c0, .int .i64 c1, .int .i64 c2, .bool c3, .bool c4, .bool c5, .int .u64 c6, .int .i64 c7, .int .u64 c8, .int .i64 c9, .int .i64 c10, .int .i64 c11, .int .i64 c12] 30))) := below_new (B1.out.setCell (Nat.le_refl _) _) _
    refine (R2.out _).mono ?_
    rintro e u3 ⟨rfl, hb⟩
    have B3 : Hid (Below w.heap.size w u3) := below_then B2.out hb
    clear hb
    go_wp2_with fail
    refine (AWH.out _).mono ?_
    rintro e u9 ⟨rfl, hb⟩
    have B9 : Hid (Below w.heap.size w u9) := below_then (below_new B3.out _) hb
    clear hb
    go_wp2_with fail
    go_ret
    exact ⟨rfl, B9.out⟩
  · have wf2 : (Wd.mk x0 x1 x2 x3 x4 a2).wf := fun k => by
      match k with
      | 0 => exact w0 0
      | 1 => exact w0 1
      | 2 => exact w0 2
      | 3 => exact w0 3
      | 4 => exact w0 4
      | 5 => exact wf_u64 w2
      | k + 6 => exact w0 (k + 6)
    have R2 : Hid (∀ W : World, Calls Try.prog 9 #[.agg #[.int .u64 x0, .int .u64 x1, .int .u64 x2, .int .u64 x3, .int .u64 x4, .int .u64 a2]] W fun e w' => e = .returned (.tuple #[.agg #[.int .i64 0, .int .i64 0, .int .i64 0, .bool false, .bool false, .bool false, .int .u64 0, .int .i64 0, .int .u64 0, .int .i64 0, .int .i64 0, .int .i64 0, .int .i64 0], .int .i64 13]) ∧ Below W.heap.size W w') := fun W => read_no _ wf2 (fun ⟨c, h⟩ => q3 (by have := (says_used h).2.2 5 (by show usedV x0 < ((5 : Nat) : Int); rw [hU]; omega) (by omega); exact this)) W
    clear wf2 hs us hU US w0
    go_enter Try.func5, Try.ntmps5
    go_wp2_with fail
    refine (R1.out _).mono ?_
    rintro e u1 ⟨rfl, hb⟩
    have B1 : Hid (Below w.heap.size w u1) := below_then (Go.Joins.below_alloc1 _ _) hb
    have Z1 : Hid (Blk u1 w.heap.size [.int .u64 x0, .int .u64 x1, .int .u64 x2, .int .u64 x3, .int .u64 x4, .int .u64 x5] 24) := Z0.out.below hb
    clear hb
    have yc0 : u1.cell? ⟨w.heap.size, 0, none⟩ = some (.int .u64 x0) := Z1.out.cell 0
    have yf0 : u1.frozen? ⟨w.heap.size, 0, none⟩ = false := Z1.out.free 0
    have yc1 : u1.cell? ⟨w.heap.size, 1, none⟩ = some (.int .u64 x1) := Z1.out.cell 1
    have yf1 : u1.frozen? ⟨w.heap.size, 1, none⟩ = false := Z1.out.free 1
    have yc2 : u1.cell? ⟨w.heap.size, 2, none⟩ = some (.int .u64 x2) := Z1.out.cell 2
    have yf2 : u1.frozen? ⟨w.heap.size, 2, none⟩ = false := Z1.out.free 2
    have yc3 : u1.cell? ⟨w.heap.size, 3, none⟩ = some (.int .u64 x3) := Z1.out.cell 3
    have yf3 : u1.frozen? ⟨w.heap.size, 3, none⟩ = false := Z1.out.free 3
    have yc4 : u1.cell? ⟨w.heap.size, 4, none⟩ = some (.int .u64 x4) := Z1.out.cell 4
    have yf4 : u1.frozen? ⟨w.heap.size, 4, none⟩ = false := Z1.out.free 4
    have yc5 : u1.cell? ⟨w.heap.size, 5, none⟩ = some (.int .u64 x5) := Z1.out.cell 5
    have yf5 : u1.frozen? ⟨w.heap.size, 5, none⟩ = false := Z1.out.free 5
    have lt1 : w.heap.size < u1.heap.size := blk_lt Z1.out
    go_wp2_with fail
    refine (US2.out _).mono ?_
    rintro e u2 ⟨rfl, hu⟩
    subst hu
    go_wp2_with fail
    have B2 : Hid (Below w.heap.size w ((u1.setCell ⟨w.heap.size, 5, none⟩ (.int .u64 a2)).alloc (.cells #[.int .i64 c0, .int .i64 c1, .int .i64 c2, .bool c3, .bool c4, .bool c5, .int .u64 c6, .int .i64 c7, .int .u64 c8, .int .i64 c9, .int .i64 c10, .int .i64 c11, .int .i64 c12] 30))) := below_new (B1.out.setCell (Nat.le_refl _) _) _
    refine (R2.out _).mono ?_
    rintro e u3 ⟨rfl, hb⟩
    have B3 : Hid (Below w.heap.size w u3) := below_then B2.out hb
    clear hb
    go_wp2_with fail
    refine (AWH.out _).mono ?_
    rintro e u9 ⟨rfl, hb⟩
    have B9 : Hid (Below w.heap.size w u9) := below_then (below_new B3.out _) hb
    clear hb
    go_wp2_with fail
    go_ret
    exact ⟨rfl, B9.out⟩

theorem own : ownKnob Try.prog.godebug = none := by kernel_rfl
theorem laidOut : laidOutB Try.prog = true := by kernel_rfl
set_option maxRecDepth 100000 in
theorem lifted (os : Os) (started : os.Started) (H : Type) (enc : TypeId × Value → H) :
    ReturnsInHanded {} Try.checked os 5 .any (Rows.callZerosSpec.pre6 enc Try.prog Try.f5 Rows.callZerosRow.domain false) (Rows.callZerosSpec.post enc Try.prog Try.f5 false true false false) := by
  refine returnsInHanded_of_change (C := Try.checked) own started (by kernel_rfl) Try.func5
    (ChangeSpec.witness6 (enc := enc) (C := Try.checked) false ⟨#[], #[.agg #[.int .u64 0, .int .u64 0, .int .u64 0, .int .u64 0, .int .u64 0, .int .u64 0], .int .i64 0, .int .u64 0], []⟩ 8 (by kernel_rfl) (by kernel_rfl) (by kernel_rfl) (by kernel_rfl)) ?_
  intro W base args ds gs before hval0 hW hcnd _
  have hval : ∀ (j : Nat) t v, Try.f5.params[j]? = some t → args[j]? = some v → Value.okWide Try.prog W .any base t v := hval0
  have hW' := hW
  obtain ⟨p, q, hA0, hV, hbef, hfz, hnd⟩ := hW
  have hA : DataW.TrodAll enc Try.prog W 0 (fun _ => true) true Try.f5.params.toList args.toList ds p := hA0
  have hAk := hA
  have hlt : ∀ x ∈ p, x.block < W.heap.size := fun x hx => hW'.lt x (by rw [hbef]; exact List.mem_append_left _ hx)
  rw [Try.params5] at hA hval
  obtain ⟨v0, vs0, d0, ds0, p0, q0, hargs, rfl, hp0, h0, r0⟩ := trodAll_cons hA
  obtain ⟨v1, vs1, d1, ds1, p1, q1, rfl, rfl, hp1, h1, r1⟩ := trodAll_cons r0
  obtain ⟨v2, vs2, d2, ds2, p2, q2, rfl, rfl, hp2, h2, r2⟩ := trodAll_cons r1
  obtain ⟨rfl, rfl, hpz⟩ := trodAll_nil r2
  obtain rfl : args = #[v0, v1, v2] := by cases args; simp_all
  obtain ⟨rfl, rfl⟩ := trodVars_none hV
  obtain ⟨D0, rfl, w0⟩ := open_wd (hval 0 24 v0 rfl rfl) h0
  obtain ⟨a1, rfl, _, _, w1⟩ := open_int Try.underlying3 (hval 1 3 v1 rfl rfl) h1
  obtain ⟨a2, rfl, _, _, w2⟩ := open_int Try.underlying22 (hval 2 22 v2 rfl rfl) h2
  clear hA0 hval0
  refine (walk D0 w0 a1 w1 a2 w2 W ).mono fun e W' ⟨he, hg⟩ => ?_
  subst he
  exact ⟨_, rfl, ⟨_, _, _, [], p, [], hW', (trodAll_cons_mk (shut_bool Try.underlying4 _) trodAll_mk0), args_stay laidOut hg (by kernel_rfl) hAk hlt, rfl, hg.frame _, fun h => by cases h⟩⟩

theorem over : Rows.callZerosRow.holds Try.pinned (OpenSpec.ofChange Rows.callZerosSpec) :=
  OpenClaim.holds_of_wide 5 Try.f5 rfl rfl rfl rfl rfl rfl rfl ⟨rfl, rfl, rfl, rfl, rfl⟩ rfl rfl rfl rfl rfl (by kernel_rfl) Try.func5 (by kernel_rfl)
    (of_decide_eq_true (by kernel_rfl)) (by unfold Func.isWrapper; first | (rw [if_pos (by decide +kernel)]; kernel_rfl) | (rw [if_neg (by decide +kernel)]; exact ⟨rfl, rfl⟩))
    (fun os started H enc _ => lifted os started H enc)

theorem proved : Rows.CallZerosSaid :=
  over
#print axioms proved
end Go.Proofs.Ytccbacjiiffheaa.callZeros
