/- For any first word and any rest: no words with an Op that is none are a call; each Op has words; no condition. -/
import Derived.Test.YtccbacjiiffheaaRows
import Derived.ProofKit
import Derived.OpenShut
import Derived.Carry
import Derived.Test.YtccbacjiiffheaaCN
namespace Go.Proofs.Ytccbacjiiffheaa.callOps
open Go.ChangeShapes Go.WideShapes Go.ChangeAt Go.RowKit Go.Maps
set_option linter.unusedSimpArgs false
set_option linter.unusedVariables false
theorem says_none {W : Wd} (h : usedV (W.at 0) < 0) : ¬ ∃ c, Says W c := fun ⟨c, hc⟩ => by have := (says_used hc).1; omega
theorem used_cases {x : Int} (h : ¬ usedV x < 0) : x = 1 ∨ x = 2 ∨ x = 3 ∨ x = 4 ∨ x = 5 ∨ x = 6 ∨ x = 7 ∨ x = 8 ∨ x = 9 ∨ x = 10 ∨ x = 11 ∨ x = 12 ∨ x = 13 ∨ x = 14 ∨ x = 15 ∨ x = 16 := by
  by_cases q : x = 1 ∨ x = 2 ∨ x = 3 ∨ x = 4 ∨ x = 5 ∨ x = 6 ∨ x = 7 ∨ x = 8 ∨ x = 9 ∨ x = 10 ∨ x = 11 ∨ x = 12 ∨ x = 13 ∨ x = 14 ∨ x = 15 ∨ x = 16
  · exact q
  · exfalso
    apply h
    have : usedV x = -1 := by
      unfold usedV
      rw [if_neg (by omega), if_neg (by omega), if_neg (by omega), if_neg (by omega), if_neg (by omega)]
    omega
theorem read_some (W : Wd) (hw : W.wf) (w : World) : Calls Try.prog 9 #[W.val] w fun e w' => (∃ (c : Cl) (er : Int), e = .returned (.tuple #[c.val, .int .i64 er])) ∧ Below w.heap.size w w' := by
  by_cases h : ∃ c, Says W c
  · obtain ⟨c, h⟩ := h
    exact (read_yes W hw c h w).mono (fun e w' q => ⟨⟨c, 0, q.1⟩, q.2⟩)
  · exact (read_no W hw h w).mono (fun e w' q => ⟨⟨Cl.zero, 13, q.1⟩, q.2⟩)

set_option maxRecDepth 8000 in
set_option maxHeartbeats 16000000 in
theorem walk (a0 : Int) (w0 : (Lit.int .u64 a0).wf = true) (r10 r11 r12 r13 r14 : Int) (w10 : (Lit.int .u64 r10).wf = true) (w11 : (Lit.int .u64 r11).wf = true) (w12 : (Lit.int .u64 r12).wf = true) (w13 : (Lit.int .u64 r13).wf = true) (w14 : (Lit.int .u64 r14).wf = true) (w : World)  :
    Calls Try.prog 7 #[.int .u64 a0, .agg #[.int .u64 r10, .int .u64 r11, .int .u64 r12, .int .u64 r13, .int .u64 r14]] w fun e w' => e = .returned (.bool true) ∧ Below w.heap.size w w' := by
  have AWH : Hid (∀ W : World, Calls Try.prog 11 #[] W fun e w' => e = .returned (.bool true) ∧ Below W.heap.size W w') := fun W => awake_any W
  have US : Hid (∀ (x : Int) (W : World), Calls Try.prog 14 #[.int .u64 x] W fun e w' => e = .returned (.int .i64 (usedV x)) ∧ w' = W) := used_any
  have wfa : (Wd.mk a0 r10 r11 r12 r13 r14).wf := wd_wf w0 w10 w11 w12 w13 w14
  by_cases hu : usedV a0 < 0
  · have R1 : Hid (∀ W : World, Calls Try.prog 9 #[.agg #[.int .u64 a0, .int .u64 r10, .int .u64 r11, .int .u64 r12, .int .u64 r13, .int .u64 r14]] W fun e w' => e = .returned (.tuple #[.agg #[.int .i64 0, .int .i64 0, .int .i64 0, .bool false, .bool false, .bool false, .int .u64 0, .int .i64 0, .int .u64 0, .int .i64 0, .int .i64 0, .int .i64 0, .int .i64 0], .int .i64 13]) ∧ Below W.heap.size W w') := fun W => read_no _ wfa (says_none hu) W
    generalize hU : usedV a0 = U at hu
    have US2 : Hid (∀ W : World, Calls Try.prog 14 #[.int .u64 a0] W fun e w' => e = .returned (.int .i64 U) ∧ w' = W) := fun W => by have := US.out a0 W; rw [hU] at this; exact this
    have du : decide (U < 0) = true := by simp [hu]
    clear US wfa hU
    go_enter Try.func7, Try.ntmps7
    go_wp2_with fail
    refine (R1.out _).mono ?_
    rintro e u1 ⟨rfl, hb⟩
    have B1 : Hid (Below w.heap.size w u1) := below_then (Go.Joins.below_alloc2 _ _ _) hb
    clear hb
    go_wp2_with fail
    refine (US2.out _).mono ?_
    rintro e u2 ⟨rfl, hu⟩
    subst hu
    go_wp2_with fail
    refine (AWH.out _).mono ?_
    rintro e u9 ⟨rfl, hb⟩
    have B9 : Hid (Below w.heap.size w u9) := below_then (below_new B1.out _) hb
    clear hb
    go_wp2_with fail
    go_ret
    exact ⟨rfl, B9.out⟩
  have hop := used_cases hu
  clear hu
  rcases hop with rfl | rfl | rfl | rfl | rfl | rfl | rfl | rfl | rfl | rfl | rfl | rfl | rfl | rfl | rfl | rfl
  · have wf2 : (Wd.mk 1 1 1 0 0 0).wf := fun k => by
      match k with
      | 0 => exact ⟨by decide, by decide⟩
      | 1 => exact ⟨by decide, by decide⟩
      | 2 => exact ⟨by decide, by decide⟩
      | 3 => exact ⟨by decide, by decide⟩
      | 4 => exact ⟨by decide, by decide⟩
      | 5 => exact ⟨by decide, by decide⟩
      | k + 6 =>
        have : (Wd.mk 1 1 1 0 0 0).at (k + 6) = 0 := by simp [Wd.at, Wd.list]
        rw [this]; omega
    have R2 : Hid (∀ W : World, Calls Try.prog 9 #[.agg #[.int .u64 1, .int .u64 1, .int .u64 1, .int .u64 0, .int .u64 0, .int .u64 0]] W fun e w' => e = .returned (.tuple #[.agg #[.int .i64 1, .int .i64 1, .int .i64 2, .bool false, .bool true, .bool false, .int .u64 0, .int .i64 0, .int .u64 0, .int .i64 0, .int .i64 0, .int .i64 0, .int .i64 0], .int .i64 0]) ∧ Below W.heap.size W w') := fun W => read_yes ⟨1, 1, 1, 0, 0, 0⟩ wf2 ⟨1, 1, 2, false, true, false, 0, 0, 0, 0, 0, 0, 0⟩ ⟨4, by decide, fun i h1 h2 => by have : i = 4 ∨ i = 5 := (by omega); rcases this with rfl | rfl <;> rfl⟩ W
    have R1 : Hid (∀ W : World, Calls Try.prog 9 #[.agg #[.int .u64 1, .int .u64 r10, .int .u64 r11, .int .u64 r12, .int .u64 r13, .int .u64 r14]] W fun e w' => (∃ (c : Cl) (er : Int), e = .returned (.tuple #[c.val, .int .i64 er])) ∧ Below W.heap.size W w') := fun W => read_some _ wfa W
    have US2 : Hid (∀ W : World, Calls Try.prog 14 #[.int .u64 1] W fun e w' => e = .returned (.int .i64 3) ∧ w' = W) := fun W => by
      have h : usedV 1 = 3 := by decide
      have := US.out 1 W
      rw [h] at this
      exact this
    clear wfa wf2 US
    go_enter Try.func7, Try.ntmps7
    go_wp2_with fail
    refine (R1.out _).mono ?_
    rintro e u1 ⟨⟨⟨c0, c1, c2, c3, c4, c5, c6, c7, c8, c9, c10, c11, c12⟩, er, rfl⟩, hb⟩
    have B1 : Hid (Below w.heap.size w u1) := below_then (Go.Joins.below_alloc2 _ _ _) hb
    clear hb
    go_wp2_with fail
    refine (US2.out _).mono ?_
    rintro e u2 ⟨rfl, hu⟩
    subst hu
    go_wp2_with fail
    refine (US2.out _).mono ?_
    rintro e u2 ⟨rfl, hu⟩
    subst hu
    go_wp2_with fail
    refine wp_loop_rounds 9 ?_
    rw [rounds_succ]
    go_wp2_with fail
    rw [rounds_succ]
    go_wp2_with fail
    rw [rounds_succ]
    go_wp2_with fail
    refine (R2.out _).mono ?_
    rintro e u3 ⟨rfl, hb⟩
    have B3 : Hid (Below w.heap.size w u3) := below_then (below_new (below_new B1.out _) _) hb
    have E3 : Hid (Blk (u3.alloc (.cells #[.int .i64 1, .int .i64 1, .int .i64 2, .bool false, .bool true, .bool false, .int .u64 0, .int .i64 0, .int .u64 0, .int .i64 0, .int .i64 0, .int .i64 0, .int .i64 0] 30)) u3.heap.size [.int .i64 1, .int .i64 1, .int .i64 2, .bool false, .bool true, .bool false, .int .u64 0, .int .i64 0, .int .u64 0, .int .i64 0, .int .i64 0, .int .i64 0, .int .i64 0] 30) := Blk.made u3 _ _
    clear hb
    go_wp2_with fail
    refine (AWH.out _).mono ?_
    rintro e u9 ⟨rfl, hb⟩
    have B9 : Hid (Below w.heap.size w u9) := below_then (below_new B3.out _) hb
    have E9 : Hid (Blk u9 u3.heap.size [.int .i64 1, .int .i64 1, .int .i64 2, .bool false, .bool true, .bool false, .int .u64 0, .int .i64 0, .int .u64 0, .int .i64 0, .int .i64 0, .int .i64 0, .int .i64 0] 30) := E3.out.below hb
    clear hb E3
    have dc0 : u9.cell? ⟨u3.heap.size, 0, none⟩ = some (.int .i64 1) := E9.out.cell 0
    have l3 : u3.heap.size < u9.heap.size := blk_lt E9.out
    go_wp2_with fail
    go_ret
    exact ⟨rfl, B9.out⟩
  · have wf2 : (Wd.mk 2 1 1 0 0 0).wf := fun k => by
      match k with
      | 0 => exact ⟨by decide, by decide⟩
      | 1 => exact ⟨by decide, by decide⟩
      | 2 => exact ⟨by decide, by decide⟩
      | 3 => exact ⟨by decide, by decide⟩
      | 4 => exact ⟨by decide, by decide⟩
      | 5 => exact ⟨by decide, by decide⟩
      | k + 6 =>
        have : (Wd.mk 2 1 1 0 0 0).at (k + 6) = 0 := by simp [Wd.at, Wd.list]
        rw [this]; omega
    have R2 : Hid (∀ W : World, Calls Try.prog 9 #[.agg #[.int .u64 2, .int .u64 1, .int .u64 1, .int .u64 0, .int .u64 0, .int .u64 0]] W fun e w' => e = .returned (.tuple #[.agg #[.int .i64 2, .int .i64 1, .int .i64 2, .bool false, .bool false, .bool false, .int .u64 0, .int .i64 0, .int .u64 0, .int .i64 0, .int .i64 0, .int .i64 0, .int .i64 0], .int .i64 0]) ∧ Below W.heap.size W w') := fun W => read_yes ⟨2, 1, 1, 0, 0, 0⟩ wf2 ⟨2, 1, 2, false, false, false, 0, 0, 0, 0, 0, 0, 0⟩ ⟨3, by decide, fun i h1 h2 => by have : i = 3 ∨ i = 4 ∨ i = 5 := (by omega); rcases this with rfl | rfl | rfl <;> rfl⟩ W
    have R1 : Hid (∀ W : World, Calls Try.prog 9 #[.agg #[.int .u64 2, .int .u64 r10, .int .u64 r11, .int .u64 r12, .int .u64 r13, .int .u64 r14]] W fun e w' => (∃ (c : Cl) (er : Int), e = .returned (.tuple #[c.val, .int .i64 er])) ∧ Below W.heap.size W w') := fun W => read_some _ wfa W
    have US2 : Hid (∀ W : World, Calls Try.prog 14 #[.int .u64 2] W fun e w' => e = .returned (.int .i64 2) ∧ w' = W) := fun W => by
      have h : usedV 2 = 2 := by decide
      have := US.out 2 W
      rw [h] at this
      exact this
    clear wfa wf2 US
    go_enter Try.func7, Try.ntmps7
    go_wp2_with fail
    refine (R1.out _).mono ?_
    rintro e u1 ⟨⟨⟨c0, c1, c2, c3, c4, c5, c6, c7, c8, c9, c10, c11, c12⟩, er, rfl⟩, hb⟩
    have B1 : Hid (Below w.heap.size w u1) := below_then (Go.Joins.below_alloc2 _ _ _) hb
    clear hb
    go_wp2_with fail
    refine (US2.out _).mono ?_
    rintro e u2 ⟨rfl, hu⟩
    subst hu
    go_wp2_with fail
    refine (US2.out _).mono ?_
    rintro e u2 ⟨rfl, hu⟩
    subst hu
    go_wp2_with fail
    refine wp_loop_rounds 9 ?_
    rw [rounds_succ]
    go_wp2_with fail
    rw [rounds_succ]
    go_wp2_with fail
    rw [rounds_succ]
    go_wp2_with fail
    rw [rounds_succ]
    go_wp2_with fail
    refine (R2.out _).mono ?_
    rintro e u3 ⟨rfl, hb⟩
    have B3 : Hid (Below w.heap.size w u3) := below_then (below_new (below_new B1.out _) _) hb
    have E3 : Hid (Blk (u3.alloc (.cells #[.int .i64 2, .int .i64 1, .int .i64 2, .bool false, .bool false, .bool false, .int .u64 0, .int .i64 0, .int .u64 0, .int .i64 0, .int .i64 0, .int .i64 0, .int .i64 0] 30)) u3.heap.size [.int .i64 2, .int .i64 1, .int .i64 2, .bool false, .bool false, .bool false, .int .u64 0, .int .i64 0, .int .u64 0, .int .i64 0, .int .i64 0, .int .i64 0, .int .i64 0] 30) := Blk.made u3 _ _
    clear hb
    go_wp2_with fail
    refine (AWH.out _).mono ?_
    rintro e u9 ⟨rfl, hb⟩
    have B9 : Hid (Below w.heap.size w u9) := below_then (below_new B3.out _) hb
    have E9 : Hid (Blk u9 u3.heap.size [.int .i64 2, .int .i64 1, .int .i64 2, .bool false, .bool false, .bool false, .int .u64 0, .int .i64 0, .int .u64 0, .int .i64 0, .int .i64 0, .int .i64 0, .int .i64 0] 30) := E3.out.below hb
    clear hb E3
    have dc0 : u9.cell? ⟨u3.heap.size, 0, none⟩ = some (.int .i64 2) := E9.out.cell 0
    have l3 : u3.heap.size < u9.heap.size := blk_lt E9.out
    go_wp2_with fail
    go_ret
    exact ⟨rfl, B9.out⟩
  · have wf2 : (Wd.mk 3 1 1 0 0 0).wf := fun k => by
      match k with
      | 0 => exact ⟨by decide, by decide⟩
      | 1 => exact ⟨by decide, by decide⟩
      | 2 => exact ⟨by decide, by decide⟩
      | 3 => exact ⟨by decide, by decide⟩
      | 4 => exact ⟨by decide, by decide⟩
      | 5 => exact ⟨by decide, by decide⟩
      | k + 6 =>
        have : (Wd.mk 3 1 1 0 0 0).at (k + 6) = 0 := by simp [Wd.at, Wd.list]
        rw [this]; omega
    have R2 : Hid (∀ W : World, Calls Try.prog 9 #[.agg #[.int .u64 3, .int .u64 1, .int .u64 1, .int .u64 0, .int .u64 0, .int .u64 0]] W fun e w' => e = .returned (.tuple #[.agg #[.int .i64 3, .int .i64 1, .int .i64 2, .bool false, .bool true, .bool false, .int .u64 0, .int .i64 0, .int .u64 0, .int .i64 0, .int .i64 0, .int .i64 0, .int .i64 0], .int .i64 0]) ∧ Below W.heap.size W w') := fun W => read_yes ⟨3, 1, 1, 0, 0, 0⟩ wf2 ⟨3, 1, 2, false, true, false, 0, 0, 0, 0, 0, 0, 0⟩ ⟨4, by decide, fun i h1 h2 => by have : i = 4 ∨ i = 5 := (by omega); rcases this with rfl | rfl <;> rfl⟩ W
    have R1 : Hid (∀ W : World, Calls Try.prog 9 #[.agg #[.int .u64 3, .int .u64 r10, .int .u64 r11, .int .u64 r12, .int .u64 r13, .int .u64 r14]] W fun e w' => (∃ (c : Cl) (er : Int), e = .returned (.tuple #[c.val, .int .i64 er])) ∧ Below W.heap.size W w') := fun W => read_some _ wfa W
    have US2 : Hid (∀ W : World, Calls Try.prog 14 #[.int .u64 3] W fun e w' => e = .returned (.int .i64 3) ∧ w' = W) := fun W => by
      have h : usedV 3 = 3 := by decide
      have := US.out 3 W
      rw [h] at this
      exact this
    clear wfa wf2 US
    go_enter Try.func7, Try.ntmps7
    go_wp2_with fail
    refine (R1.out _).mono ?_
    rintro e u1 ⟨⟨⟨c0, c1, c2, c3, c4, c5, c6, c7, c8, c9, c10, c11, c12⟩, er, rfl⟩, hb⟩
    have B1 : Hid (Below w.heap.size w u1) := below_then (Go.Joins.below_alloc2 _ _ _) hb
    clear hb
    go_wp2_with fail
    refine (US2.out _).mono ?_
    rintro e u2 ⟨rfl, hu⟩
    subst hu
    go_wp2_with fail
    refine (US2.out _).mono ?_
    rintro e u2 ⟨rfl, hu⟩
    subst hu
    go_wp2_with fail
    refine wp_loop_rounds 9 ?_
    rw [rounds_succ]
    go_wp2_with fail
    rw [rounds_succ]
    go_wp2_with fail
    rw [rounds_succ]
    go_wp2_with fail
    refine (R2.out _).mono ?_
    rintro e u3 ⟨rfl, hb⟩
    have B3 : Hid (Below w.heap.size w u3) := below_then (below_new (below_new B1.out _) _) hb
    have E3 : Hid (Blk (u3.alloc (.cells #[.int .i64 3, .int .i64 1, .int .i64 2, .bool false, .bool true, .bool false, .int .u64 0, .int .i64 0, .int .u64 0, .int .i64 0, .int .i64 0, .int .i64 0, .int .i64 0] 30)) u3.heap.size [.int .i64 3, .int .i64 1, .int .i64 2, .bool false, .bool true, .bool false, .int .u64 0, .int .i64 0, .int .u64 0, .int .i64 0, .int .i64 0, .int .i64 0, .int .i64 0] 30) := Blk.made u3 _ _
    clear hb
    go_wp2_with fail
    refine (AWH.out _).mono ?_
    rintro e u9 ⟨rfl, hb⟩
    have B9 : Hid (Below w.heap.size w u9) := below_then (below_new B3.out _) hb
    have E9 : Hid (Blk u9 u3.heap.size [.int .i64 3, .int .i64 1, .int .i64 2, .bool false, .bool true, .bool false, .int .u64 0, .int .i64 0, .int .u64 0, .int .i64 0, .int .i64 0, .int .i64 0, .int .i64 0] 30) := E3.out.below hb
    clear hb E3
    have dc0 : u9.cell? ⟨u3.heap.size, 0, none⟩ = some (.int .i64 3) := E9.out.cell 0
    have l3 : u3.heap.size < u9.heap.size := blk_lt E9.out
    go_wp2_with fail
    go_ret
    exact ⟨rfl, B9.out⟩
  · have wf2 : (Wd.mk 4 8 8 0 0 0).wf := fun k => by
      match k with
      | 0 => exact ⟨by decide, by decide⟩
      | 1 => exact ⟨by decide, by decide⟩
      | 2 => exact ⟨by decide, by decide⟩
      | 3 => exact ⟨by decide, by decide⟩
      | 4 => exact ⟨by decide, by decide⟩
      | 5 => exact ⟨by decide, by decide⟩
      | k + 6 =>
        have : (Wd.mk 4 8 8 0 0 0).at (k + 6) = 0 := by simp [Wd.at, Wd.list]
        rw [this]; omega
    have R2 : Hid (∀ W : World, Calls Try.prog 9 #[.agg #[.int .u64 4, .int .u64 8, .int .u64 8, .int .u64 0, .int .u64 0, .int .u64 0]] W fun e w' => e = .returned (.tuple #[.agg #[.int .i64 4, .int .i64 0, .int .i64 0, .bool false, .bool false, .bool false, .int .u64 8, .int .i64 8, .int .u64 0, .int .i64 0, .int .i64 0, .int .i64 0, .int .i64 0], .int .i64 0]) ∧ Below W.heap.size W w') := fun W => read_yes ⟨4, 8, 8, 0, 0, 0⟩ wf2 ⟨4, 0, 0, false, false, false, 8, 8, 0, 0, 0, 0, 0⟩ ⟨3, by decide, fun i h1 h2 => by have : i = 3 ∨ i = 4 ∨ i = 5 := (by omega); rcases this with rfl | rfl | rfl <;> rfl⟩ W
    have R1 : Hid (∀ W : World, Calls Try.prog 9 #[.agg #[.int .u64 4, .int .u64 r10, .int .u64 r11, .int .u64 r12, .int .u64 r13, .int .u64 r14]] W fun e w' => (∃ (c : Cl) (er : Int), e = .returned (.tuple #[c.val, .int .i64 er])) ∧ Below W.heap.size W w') := fun W => read_some _ wfa W
    have US2 : Hid (∀ W : World, Calls Try.prog 14 #[.int .u64 4] W fun e w' => e = .returned (.int .i64 2) ∧ w' = W) := fun W => by
      have h : usedV 4 = 2 := by decide
      have := US.out 4 W
      rw [h] at this
      exact this
    clear wfa wf2 US
    go_enter Try.func7, Try.ntmps7
    go_wp2_with fail
    refine (R1.out _).mono ?_
    rintro e u1 ⟨⟨⟨c0, c1, c2, c3, c4, c5, c6, c7, c8, c9, c10, c11, c12⟩, er, rfl⟩, hb⟩
    have B1 : Hid (Below w.heap.size w u1) := below_then (Go.Joins.below_alloc2 _ _ _) hb
    clear hb
    go_wp2_with fail
    refine (US2.out _).mono ?_
    rintro e u2 ⟨rfl, hu⟩
    subst hu
    go_wp2_with fail
    refine (US2.out _).mono ?_
    rintro e u2 ⟨rfl, hu⟩
    subst hu
    go_wp2_with fail
    refine wp_loop_rounds 9 ?_
    rw [rounds_succ]
    go_wp2_with fail
    rw [rounds_succ]
    go_wp2_with fail
    rw [rounds_succ]
    go_wp2_with fail
    rw [rounds_succ]
    go_wp2_with fail
    refine (R2.out _).mono ?_
    rintro e u3 ⟨rfl, hb⟩
    have B3 : Hid (Below w.heap.size w u3) := below_then (below_new (below_new B1.out _) _) hb
    have E3 : Hid (Blk (u3.alloc (.cells #[.int .i64 4, .int .i64 0, .int .i64 0, .bool false, .bool false, .bool false, .int .u64 8, .int .i64 8, .int .u64 0, .int .i64 0, .int .i64 0, .int .i64 0, .int .i64 0] 30)) u3.heap.size [.int .i64 4, .int .i64 0, .int .i64 0, .bool false, .bool false, .bool false, .int .u64 8, .int .i64 8, .int .u64 0, .int .i64 0, .int .i64 0, .int .i64 0, .int .i64 0] 30) := Blk.made u3 _ _
    clear hb
    go_wp2_with fail
    refine (AWH.out _).mono ?_
    rintro e u9 ⟨rfl, hb⟩
    have B9 : Hid (Below w.heap.size w u9) := below_then (below_new B3.out _) hb
    have E9 : Hid (Blk u9 u3.heap.size [.int .i64 4, .int .i64 0, .int .i64 0, .bool false, .bool false, .bool false, .int .u64 8, .int .i64 8, .int .u64 0, .int .i64 0, .int .i64 0, .int .i64 0, .int .i64 0] 30) := E3.out.below hb
    clear hb E3
    have dc0 : u9.cell? ⟨u3.heap.size, 0, none⟩ = some (.int .i64 4) := E9.out.cell 0
    have l3 : u3.heap.size < u9.heap.size := blk_lt E9.out
    go_wp2_with fail
    go_ret
    exact ⟨rfl, B9.out⟩
  · have wf2 : (Wd.mk 5 8 8 0 0 0).wf := fun k => by
      match k with
      | 0 => exact ⟨by decide, by decide⟩
      | 1 => exact ⟨by decide, by decide⟩
      | 2 => exact ⟨by decide, by decide⟩
      | 3 => exact ⟨by decide, by decide⟩
      | 4 => exact ⟨by decide, by decide⟩
      | 5 => exact ⟨by decide, by decide⟩
      | k + 6 =>
        have : (Wd.mk 5 8 8 0 0 0).at (k + 6) = 0 := by simp [Wd.at, Wd.list]
        rw [this]; omega
    have R2 : Hid (∀ W : World, Calls Try.prog 9 #[.agg #[.int .u64 5, .int .u64 8, .int .u64 8, .int .u64 0, .int .u64 0, .int .u64 0]] W fun e w' => e = .returned (.tuple #[.agg #[.int .i64 5, .int .i64 0, .int .i64 0, .bool false, .bool false, .bool false, .int .u64 8, .int .i64 8, .int .u64 0, .int .i64 0, .int .i64 0, .int .i64 0, .int .i64 0], .int .i64 0]) ∧ Below W.heap.size W w') := fun W => read_yes ⟨5, 8, 8, 0, 0, 0⟩ wf2 ⟨5, 0, 0, false, false, false, 8, 8, 0, 0, 0, 0, 0⟩ ⟨4, by decide, fun i h1 h2 => by have : i = 4 ∨ i = 5 := (by omega); rcases this with rfl | rfl <;> rfl⟩ W
    have R1 : Hid (∀ W : World, Calls Try.prog 9 #[.agg #[.int .u64 5, .int .u64 r10, .int .u64 r11, .int .u64 r12, .int .u64 r13, .int .u64 r14]] W fun e w' => (∃ (c : Cl) (er : Int), e = .returned (.tuple #[c.val, .int .i64 er])) ∧ Below W.heap.size W w') := fun W => read_some _ wfa W
    have US2 : Hid (∀ W : World, Calls Try.prog 14 #[.int .u64 5] W fun e w' => e = .returned (.int .i64 3) ∧ w' = W) := fun W => by
      have h : usedV 5 = 3 := by decide
      have := US.out 5 W
      rw [h] at this
      exact this
    clear wfa wf2 US
    go_enter Try.func7, Try.ntmps7
    go_wp2_with fail
    refine (R1.out _).mono ?_
    rintro e u1 ⟨⟨⟨c0, c1, c2, c3, c4, c5, c6, c7, c8, c9, c10, c11, c12⟩, er, rfl⟩, hb⟩
    have B1 : Hid (Below w.heap.size w u1) := below_then (Go.Joins.below_alloc2 _ _ _) hb
    clear hb
    go_wp2_with fail
    refine (US2.out _).mono ?_
    rintro e u2 ⟨rfl, hu⟩
    subst hu
    go_wp2_with fail
    refine (US2.out _).mono ?_
    rintro e u2 ⟨rfl, hu⟩
    subst hu
    go_wp2_with fail
    refine wp_loop_rounds 9 ?_
    rw [rounds_succ]
    go_wp2_with fail
    rw [rounds_succ]
    go_wp2_with fail
    rw [rounds_succ]
    go_wp2_with fail
    refine (R2.out _).mono ?_
    rintro e u3 ⟨rfl, hb⟩
    have B3 : Hid (Below w.heap.size w u3) := below_then (below_new (below_new B1.out _) _) hb
    have E3 : Hid (Blk (u3.alloc (.cells #[.int .i64 5, .int .i64 0, .int .i64 0, .bool false, .bool false, .bool false, .int .u64 8, .int .i64 8, .int .u64 0, .int .i64 0, .int .i64 0, .int .i64 0, .int .i64 0] 30)) u3.heap.size [.int .i64 5, .int .i64 0, .int .i64 0, .bool false, .bool false, .bool false, .int .u64 8, .int .i64 8, .int .u64 0, .int .i64 0, .int .i64 0, .int .i64 0, .int .i64 0] 30) := Blk.made u3 _ _
    clear hb
    go_wp2_with fail
    refine (AWH.out _).mono ?_
    rintro e u9 ⟨rfl, hb⟩
    have B9 : Hid (Below w.heap.size w u9) := below_then (below_new B3.out _) hb
    have E9 : Hid (Blk u9 u3.heap.size [.int .i64 5, .int .i64 0, .int .i64 0, .bool false, .bool false, .bool false, .int .u64 8, .int .i64 8, .int .u64 0, .int .i64 0, .int .i64 0, .int .i64 0, .int .i64 0] 30) := E3.out.below hb
    clear hb E3
    have dc0 : u9.cell? ⟨u3.heap.size, 0, none⟩ = some (.int .i64 5) := E9.out.cell 0
    have l3 : u3.heap.size < u9.heap.size := blk_lt E9.out
    go_wp2_with fail
    go_ret
    exact ⟨rfl, B9.out⟩
  · have wf2 : (Wd.mk 6 1 1 0 0 0).wf := fun k => by
      match k with
      | 0 => exact ⟨by decide, by decide⟩
      | 1 => exact ⟨by decide, by decide⟩
      | 2 => exact ⟨by decide, by decide⟩
      | 3 => exact ⟨by decide, by decide⟩
      | 4 => exact ⟨by decide, by decide⟩
      | 5 => exact ⟨by decide, by decide⟩
      | k + 6 =>
        have : (Wd.mk 6 1 1 0 0 0).at (k + 6) = 0 := by simp [Wd.at, Wd.list]
        rw [this]; omega
    have R2 : Hid (∀ W : World, Calls Try.prog 9 #[.agg #[.int .u64 6, .int .u64 1, .int .u64 1, .int .u64 0, .int .u64 0, .int .u64 0]] W fun e w' => e = .returned (.tuple #[.agg #[.int .i64 6, .int .i64 1, .int .i64 2, .bool false, .bool false, .bool false, .int .u64 0, .int .i64 0, .int .u64 0, .int .i64 1, .int .i64 0, .int .i64 0, .int .i64 0], .int .i64 0]) ∧ Below W.heap.size W w') := fun W => read_yes ⟨6, 1, 1, 0, 0, 0⟩ wf2 ⟨6, 1, 2, false, false, false, 0, 0, 0, 1, 0, 0, 0⟩ ⟨4, by decide, fun i h1 h2 => by have : i = 4 ∨ i = 5 := (by omega); rcases this with rfl | rfl <;> rfl⟩ W
    have R1 : Hid (∀ W : World, Calls Try.prog 9 #[.agg #[.int .u64 6, .int .u64 r10, .int .u64 r11, .int .u64 r12, .int .u64 r13, .int .u64 r14]] W fun e w' => (∃ (c : Cl) (er : Int), e = .returned (.tuple #[c.val, .int .i64 er])) ∧ Below W.heap.size W w') := fun W => read_some _ wfa W
    have US2 : Hid (∀ W : World, Calls Try.prog 14 #[.int .u64 6] W fun e w' => e = .returned (.int .i64 3) ∧ w' = W) := fun W => by
      have h : usedV 6 = 3 := by decide
      have := US.out 6 W
      rw [h] at this
      exact this
    clear wfa wf2 US
    go_enter Try.func7, Try.ntmps7
    go_wp2_with fail
    refine (R1.out _).mono ?_
    rintro e u1 ⟨⟨⟨c0, c1, c2, c3, c4, c5, c6, c7, c8, c9, c10, c11, c12⟩, er, rfl⟩, hb⟩
    have B1 : Hid (Below w.heap.size w u1) := below_then (Go.Joins.below_alloc2 _ _ _) hb
    clear hb
    go_wp2_with fail
    refine (US2.out _).mono ?_
    rintro e u2 ⟨rfl, hu⟩
    subst hu
    go_wp2_with fail
    refine (US2.out _).mono ?_
    rintro e u2 ⟨rfl, hu⟩
    subst hu
    go_wp2_with fail
    refine wp_loop_rounds 9 ?_
    rw [rounds_succ]
    go_wp2_with fail
    rw [rounds_succ]
    go_wp2_with fail
    rw [rounds_succ]
    go_wp2_with fail
    refine (R2.out _).mono ?_
    rintro e u3 ⟨rfl, hb⟩
    have B3 : Hid (Below w.heap.size w u3) := below_then (below_new (below_new B1.out _) _) hb
    have E3 : Hid (Blk (u3.alloc (.cells #[.int .i64 6, .int .i64 1, .int .i64 2, .bool false, .bool false, .bool false, .int .u64 0, .int .i64 0, .int .u64 0, .int .i64 1, .int .i64 0, .int .i64 0, .int .i64 0] 30)) u3.heap.size [.int .i64 6, .int .i64 1, .int .i64 2, .bool false, .bool false, .bool false, .int .u64 0, .int .i64 0, .int .u64 0, .int .i64 1, .int .i64 0, .int .i64 0, .int .i64 0] 30) := Blk.made u3 _ _
    clear hb
    go_wp2_with fail
    refine (AWH.out _).mono ?_
    rintro e u9 ⟨rfl, hb⟩
    have B9 : Hid (Below w.heap.size w u9) := below_then (below_new B3.out _) hb
    have E9 : Hid (Blk u9 u3.heap.size [.int .i64 6, .int .i64 1, .int .i64 2, .bool false, .bool false, .bool false, .int .u64 0, .int .i64 0, .int .u64 0, .int .i64 1, .int .i64 0, .int .i64 0, .int .i64 0] 30) := E3.out.below hb
    clear hb E3
    have dc0 : u9.cell? ⟨u3.heap.size, 0, none⟩ = some (.int .i64 6) := E9.out.cell 0
    have l3 : u3.heap.size < u9.heap.size := blk_lt E9.out
    go_wp2_with fail
    go_ret
    exact ⟨rfl, B9.out⟩
  · have wf2 : (Wd.mk 7 1 1 0 0 0).wf := fun k => by
      match k with
      | 0 => exact ⟨by decide, by decide⟩
      | 1 => exact ⟨by decide, by decide⟩
      | 2 => exact ⟨by decide, by decide⟩
      | 3 => exact ⟨by decide, by decide⟩
      | 4 => exact ⟨by decide, by decide⟩
      | 5 => exact ⟨by decide, by decide⟩
      | k + 6 =>
        have : (Wd.mk 7 1 1 0 0 0).at (k + 6) = 0 := by simp [Wd.at, Wd.list]
        rw [this]; omega
    have R2 : Hid (∀ W : World, Calls Try.prog 9 #[.agg #[.int .u64 7, .int .u64 1, .int .u64 1, .int .u64 0, .int .u64 0, .int .u64 0]] W fun e w' => e = .returned (.tuple #[.agg #[.int .i64 7, .int .i64 1, .int .i64 2, .bool false, .bool false, .bool false, .int .u64 0, .int .i64 0, .int .u64 0, .int .i64 1, .int .i64 0, .int .i64 0, .int .i64 0], .int .i64 0]) ∧ Below W.heap.size W w') := fun W => read_yes ⟨7, 1, 1, 0, 0, 0⟩ wf2 ⟨7, 1, 2, false, false, false, 0, 0, 0, 1, 0, 0, 0⟩ ⟨3, by decide, fun i h1 h2 => by have : i = 3 ∨ i = 4 ∨ i = 5 := (by omega); rcases this with rfl | rfl | rfl <;> rfl⟩ W
    have R1 : Hid (∀ W : World, Calls Try.prog 9 #[.agg #[.int .u64 7, .int .u64 r10, .int .u64 r11, .int .u64 r12, .int .u64 r13, .int .u64 r14]] W fun e w' => (∃ (c : Cl) (er : Int), e = .returned (.tuple #[c.val, .int .i64 er])) ∧ Below W.heap.size W w') := fun W => read_some _ wfa W
    have US2 : Hid (∀ W : World, Calls Try.prog 14 #[.int .u64 7] W fun e w' => e = .returned (.int .i64 2) ∧ w' = W) := fun W => by
      have h : usedV 7 = 2 := by decide
      have := US.out 7 W
      rw [h] at this
      exact this
    clear wfa wf2 US
    go_enter Try.func7, Try.ntmps7
    go_wp2_with fail
    refine (R1.out _).mono ?_
    rintro e u1 ⟨⟨⟨c0, c1, c2, c3, c4, c5, c6, c7, c8, c9, c10, c11, c12⟩, er, rfl⟩, hb⟩
    have B1 : Hid (Below w.heap.size w u1) := below_then (Go.Joins.below_alloc2 _ _ _) hb
    clear hb
    go_wp2_with fail
    refine (US2.out _).mono ?_
    rintro e u2 ⟨rfl, hu⟩
    subst hu
    go_wp2_with fail
    refine (US2.out _).mono ?_
    rintro e u2 ⟨rfl, hu⟩
    subst hu
    go_wp2_with fail
    refine wp_loop_rounds 9 ?_
    rw [rounds_succ]
    go_wp2_with fail
    rw [rounds_succ]
    go_wp2_with fail
    rw [rounds_succ]
    go_wp2_with fail
    rw [rounds_succ]
    go_wp2_with fail
    refine (R2.out _).mono ?_
    rintro e u3 ⟨rfl, hb⟩
    have B3 : Hid (Below w.heap.size w u3) := below_then (below_new (below_new B1.out _) _) hb
    have E3 : Hid (Blk (u3.alloc (.cells #[.int .i64 7, .int .i64 1, .int .i64 2, .bool false, .bool false, .bool false, .int .u64 0, .int .i64 0, .int .u64 0, .int .i64 1, .int .i64 0, .int .i64 0, .int .i64 0] 30)) u3.heap.size [.int .i64 7, .int .i64 1, .int .i64 2, .bool false, .bool false, .bool false, .int .u64 0, .int .i64 0, .int .u64 0, .int .i64 1, .int .i64 0, .int .i64 0, .int .i64 0] 30) := Blk.made u3 _ _
    clear hb
    go_wp2_with fail
    refine (AWH.out _).mono ?_
    rintro e u9 ⟨rfl, hb⟩
    have B9 : Hid (Below w.heap.size w u9) := below_then (below_new B3.out _) hb
    have E9 : Hid (Blk u9 u3.heap.size [.int .i64 7, .int .i64 1, .int .i64 2, .bool false, .bool false, .bool false, .int .u64 0, .int .i64 0, .int .u64 0, .int .i64 1, .int .i64 0, .int .i64 0, .int .i64 0] 30) := E3.out.below hb
    clear hb E3
    have dc0 : u9.cell? ⟨u3.heap.size, 0, none⟩ = some (.int .i64 7) := E9.out.cell 0
    have l3 : u3.heap.size < u9.heap.size := blk_lt E9.out
    go_wp2_with fail
    go_ret
    exact ⟨rfl, B9.out⟩
  · have wf2 : (Wd.mk 8 1 0 0 0 0).wf := fun k => by
      match k with
      | 0 => exact ⟨by decide, by decide⟩
      | 1 => exact ⟨by decide, by decide⟩
      | 2 => exact ⟨by decide, by decide⟩
      | 3 => exact ⟨by decide, by decide⟩
      | 4 => exact ⟨by decide, by decide⟩
      | 5 => exact ⟨by decide, by decide⟩
      | k + 6 =>
        have : (Wd.mk 8 1 0 0 0 0).at (k + 6) = 0 := by simp [Wd.at, Wd.list]
        rw [this]; omega
    have R2 : Hid (∀ W : World, Calls Try.prog 9 #[.agg #[.int .u64 8, .int .u64 1, .int .u64 0, .int .u64 0, .int .u64 0, .int .u64 0]] W fun e w' => e = .returned (.tuple #[.agg #[.int .i64 8, .int .i64 0, .int .i64 0, .bool false, .bool false, .bool false, .int .u64 0, .int .i64 0, .int .u64 0, .int .i64 1, .int .i64 0, .int .i64 0, .int .i64 0], .int .i64 0]) ∧ Below W.heap.size W w') := fun W => read_yes ⟨8, 1, 0, 0, 0, 0⟩ wf2 ⟨8, 0, 0, false, false, false, 0, 0, 0, 1, 0, 0, 0⟩ ⟨2, by decide, fun i h1 h2 => by have : i = 2 ∨ i = 3 ∨ i = 4 ∨ i = 5 := (by omega); rcases this with rfl | rfl | rfl | rfl <;> rfl⟩ W
    have R1 : Hid (∀ W : World, Calls Try.prog 9 #[.agg #[.int .u64 8, .int .u64 r10, .int .u64 r11, .int .u64 r12, .int .u64 r13, .int .u64 r14]] W fun e w' => (∃ (c : Cl) (er : Int), e = .returned (.tuple #[c.val, .int .i64 er])) ∧ Below W.heap.size W w') := fun W => read_some _ wfa W
    have US2 : Hid (∀ W : World, Calls Try.prog 14 #[.int .u64 8] W fun e w' => e = .returned (.int .i64 1) ∧ w' = W) := fun W => by
      have h : usedV 8 = 1 := by decide
      have := US.out 8 W
      rw [h] at this
      exact this
    clear wfa wf2 US
    go_enter Try.func7, Try.ntmps7
    go_wp2_with fail
    refine (R1.out _).mono ?_
    rintro e u1 ⟨⟨⟨c0, c1, c2, c3, c4, c5, c6, c7, c8, c9, c10, c11, c12⟩, er, rfl⟩, hb⟩
    have B1 : Hid (Below w.heap.size w u1) := below_then (Go.Joins.below_alloc2 _ _ _) hb
    clear hb
    go_wp2_with fail
    refine (US2.out _).mono ?_
    rintro e u2 ⟨rfl, hu⟩
    subst hu
    go_wp2_with fail
    refine (US2.out _).mono ?_
    rintro e u2 ⟨rfl, hu⟩
    subst hu
    go_wp2_with fail
    refine wp_loop_rounds 9 ?_
    rw [rounds_succ]
    go_wp2_with fail
    rw [rounds_succ]
    go_wp2_with fail
    rw [rounds_succ]
    go_wp2_with fail
    rw [rounds_succ]
    go_wp2_with fail
    rw [rounds_succ]
    go_wp2_with fail
    refine (R2.out _).mono ?_
    rintro e u3 ⟨rfl, hb⟩
    have B3 : Hid (Below w.heap.size w u3) := below_then (below_new (below_new B1.out _) _) hb
    have E3 : Hid (Blk (u3.alloc (.cells #[.int .i64 8, .int .i64 0, .int .i64 0, .bool false, .bool false, .bool false, .int .u64 0, .int .i64 0, .int .u64 0, .int .i64 1, .int .i64 0, .int .i64 0, .int .i64 0] 30)) u3.heap.size [.int .i64 8, .int .i64 0, .int .i64 0, .bool false, .bool false, .bool false, .int .u64 0, .int .i64 0, .int .u64 0, .int .i64 1, .int .i64 0, .int .i64 0, .int .i64 0] 30) := Blk.made u3 _ _
    clear hb
    go_wp2_with fail
    refine (AWH.out _).mono ?_
    rintro e u9 ⟨rfl, hb⟩
    have B9 : Hid (Below w.heap.size w u9) := below_then (below_new B3.out _) hb
    have E9 : Hid (Blk u9 u3.heap.size [.int .i64 8, .int .i64 0, .int .i64 0, .bool false, .bool false, .bool false, .int .u64 0, .int .i64 0, .int .u64 0, .int .i64 1, .int .i64 0, .int .i64 0, .int .i64 0] 30) := E3.out.below hb
    clear hb E3
    have dc0 : u9.cell? ⟨u3.heap.size, 0, none⟩ = some (.int .i64 8) := E9.out.cell 0
    have l3 : u3.heap.size < u9.heap.size := blk_lt E9.out
    go_wp2_with fail
    go_ret
    exact ⟨rfl, B9.out⟩
  · have wf2 : (Wd.mk 9 1 0 0 0 0).wf := fun k => by
      match k with
      | 0 => exact ⟨by decide, by decide⟩
      | 1 => exact ⟨by decide, by decide⟩
      | 2 => exact ⟨by decide, by decide⟩
      | 3 => exact ⟨by decide, by decide⟩
      | 4 => exact ⟨by decide, by decide⟩
      | 5 => exact ⟨by decide, by decide⟩
      | k + 6 =>
        have : (Wd.mk 9 1 0 0 0 0).at (k + 6) = 0 := by simp [Wd.at, Wd.list]
        rw [this]; omega
    have R2 : Hid (∀ W : World, Calls Try.prog 9 #[.agg #[.int .u64 9, .int .u64 1, .int .u64 0, .int .u64 0, .int .u64 0, .int .u64 0]] W fun e w' => e = .returned (.tuple #[.agg #[.int .i64 9, .int .i64 0, .int .i64 0, .bool false, .bool false, .bool false, .int .u64 0, .int .i64 0, .int .u64 0, .int .i64 1, .int .i64 0, .int .i64 0, .int .i64 0], .int .i64 0]) ∧ Below W.heap.size W w') := fun W => read_yes ⟨9, 1, 0, 0, 0, 0⟩ wf2 ⟨9, 0, 0, false, false, false, 0, 0, 0, 1, 0, 0, 0⟩ ⟨2, by decide, fun i h1 h2 => by have : i = 2 ∨ i = 3 ∨ i = 4 ∨ i = 5 := (by omega); rcases this with rfl | rfl | rfl | rfl <;> rfl⟩ W
    have R1 : Hid (∀ W : World, Calls Try.prog 9 #[.agg #[.int .u64 9, .int .u64 r10, .int .u64 r11, .int .u64 r12, .int .u64 r13, .int .u64 r14]] W fun e w' => (∃ (c : Cl) (er : Int), e = .returned (.tuple #[c.val, .int .i64 er])) ∧ Below W.heap.size W w') := fun W => read_some _ wfa W
    have US2 : Hid (∀ W : World, Calls Try.prog 14 #[.int .u64 9] W fun e w' => e = .returned (.int .i64 1) ∧ w' = W) := fun W => by
      have h : usedV 9 = 1 := by decide
      have := US.out 9 W
      rw [h] at this
      exact this
    clear wfa wf2 US
    go_enter Try.func7, Try.ntmps7
    go_wp2_with fail
    refine (R1.out _).mono ?_
    rintro e u1 ⟨⟨⟨c0, c1, c2, c3, c4, c5, c6, c7, c8, c9, c10, c11, c12⟩, er, rfl⟩, hb⟩
    have B1 : Hid (Below w.heap.size w u1) := below_then (Go.Joins.below_alloc2 _ _ _) hb
    clear hb
    go_wp2_with fail
    refine (US2.out _).mono ?_
    rintro e u2 ⟨rfl, hu⟩
    subst hu
    go_wp2_with fail
    refine (US2.out _).mono ?_
    rintro e u2 ⟨rfl, hu⟩
    subst hu
    go_wp2_with fail
    refine wp_loop_rounds 9 ?_
    rw [rounds_succ]
    go_wp2_with fail
    rw [rounds_succ]
    go_wp2_with fail
    rw [rounds_succ]
    go_wp2_with fail
    rw [rounds_succ]
    go_wp2_with fail
    rw [rounds_succ]
    go_wp2_with fail
    refine (R2.out _).mono ?_
    rintro e u3 ⟨rfl, hb⟩
    have B3 : Hid (Below w.heap.size w u3) := below_then (below_new (below_new B1.out _) _) hb
    have E3 : Hid (Blk (u3.alloc (.cells #[.int .i64 9, .int .i64 0, .int .i64 0, .bool false, .bool false, .bool false, .int .u64 0, .int .i64 0, .int .u64 0, .int .i64 1, .int .i64 0, .int .i64 0, .int .i64 0] 30)) u3.heap.size [.int .i64 9, .int .i64 0, .int .i64 0, .bool false, .bool false, .bool false, .int .u64 0, .int .i64 0, .int .u64 0, .int .i64 1, .int .i64 0, .int .i64 0, .int .i64 0] 30) := Blk.made u3 _ _
    clear hb
    go_wp2_with fail
    refine (AWH.out _).mono ?_
    rintro e u9 ⟨rfl, hb⟩
    have B9 : Hid (Below w.heap.size w u9) := below_then (below_new B3.out _) hb
    have E9 : Hid (Blk u9 u3.heap.size [.int .i64 9, .int .i64 0, .int .i64 0, .bool false, .bool false, .bool false, .int .u64 0, .int .i64 0, .int .u64 0, .int .i64 1, .int .i64 0, .int .i64 0, .int .i64 0] 30) := E3.out.below hb
    clear hb E3
    have dc0 : u9.cell? ⟨u3.heap.size, 0, none⟩ = some (.int .i64 9) := E9.out.cell 0
    have l3 : u3.heap.size < u9.heap.size := blk_lt E9.out
    go_wp2_with fail
    go_ret
    exact ⟨rfl, B9.out⟩
  · have wf2 : (Wd.mk 10 1 0 0 0 0).wf := fun k => by
      match k with
      | 0 => exact ⟨by decide, by decide⟩
      | 1 => exact ⟨by decide, by decide⟩
      | 2 => exact ⟨by decide, by decide⟩
      | 3 => exact ⟨by decide, by decide⟩
      | 4 => exact ⟨by decide, by decide⟩
      | 5 => exact ⟨by decide, by decide⟩
      | k + 6 =>
        have : (Wd.mk 10 1 0 0 0 0).at (k + 6) = 0 := by simp [Wd.at, Wd.list]
        rw [this]; omega
    have R2 : Hid (∀ W : World, Calls Try.prog 9 #[.agg #[.int .u64 10, .int .u64 1, .int .u64 0, .int .u64 0, .int .u64 0, .int .u64 0]] W fun e w' => e = .returned (.tuple #[.agg #[.int .i64 10, .int .i64 0, .int .i64 0, .bool false, .bool false, .bool false, .int .u64 1, .int .i64 0, .int .u64 0, .int .i64 0, .int .i64 0, .int .i64 0, .int .i64 0], .int .i64 0]) ∧ Below W.heap.size W w') := fun W => read_yes ⟨10, 1, 0, 0, 0, 0⟩ wf2 ⟨10, 0, 0, false, false, false, 1, 0, 0, 0, 0, 0, 0⟩ ⟨2, by decide, fun i h1 h2 => by have : i = 2 ∨ i = 3 ∨ i = 4 ∨ i = 5 := (by omega); rcases this with rfl | rfl | rfl | rfl <;> rfl⟩ W
    have R1 : Hid (∀ W : World, Calls Try.prog 9 #[.agg #[.int .u64 10, .int .u64 r10, .int .u64 r11, .int .u64 r12, .int .u64 r13, .int .u64 r14]] W fun e w' => (∃ (c : Cl) (er : Int), e = .returned (.tuple #[c.val, .int .i64 er])) ∧ Below W.heap.size W w') := fun W => read_some _ wfa W
    have US2 : Hid (∀ W : World, Calls Try.prog 14 #[.int .u64 10] W fun e w' => e = .returned (.int .i64 1) ∧ w' = W) := fun W => by
      have h : usedV 10 = 1 := by decide
      have := US.out 10 W
      rw [h] at this
      exact this
    clear wfa wf2 US
    go_enter Try.func7, Try.ntmps7
    go_wp2_with fail
    refine (R1.out _).mono ?_
    rintro e u1 ⟨⟨⟨c0, c1, c2, c3, c4, c5, c6, c7, c8, c9, c10, c11, c12⟩, er, rfl⟩, hb⟩
    have B1 : Hid (Below w.heap.size w u1) := below_then (Go.Joins.below_alloc2 _ _ _) hb
    clear hb
    go_wp2_with fail
    refine (US2.out _).mono ?_
    rintro e u2 ⟨rfl, hu⟩
    subst hu
    go_wp2_with fail
    refine (US2.out _).mono ?_
    rintro e u2 ⟨rfl, hu⟩
    subst hu
    go_wp2_with fail
    refine wp_loop_rounds 9 ?_
    rw [rounds_succ]
    go_wp2_with fail
    rw [rounds_succ]
    go_wp2_with fail
    rw [rounds_succ]
    go_wp2_with fail
    rw [rounds_succ]
    go_wp2_with fail
    rw [rounds_succ]
    go_wp2_with fail
    refine (R2.out _).mono ?_
    rintro e u3 ⟨rfl, hb⟩
    have B3 : Hid (Below w.heap.size w u3) := below_then (below_new (below_new B1.out _) _) hb
    have E3 : Hid (Blk (u3.alloc (.cells #[.int .i64 10, .int .i64 0, .int .i64 0, .bool false, .bool false, .bool false, .int .u64 1, .int .i64 0, .int .u64 0, .int .i64 0, .int .i64 0, .int .i64 0, .int .i64 0] 30)) u3.heap.size [.int .i64 10, .int .i64 0, .int .i64 0, .bool false, .bool false, .bool false, .int .u64 1, .int .i64 0, .int .u64 0, .int .i64 0, .int .i64 0, .int .i64 0, .int .i64 0] 30) := Blk.made u3 _ _
    clear hb
    go_wp2_with fail
    refine (AWH.out _).mono ?_
    rintro e u9 ⟨rfl, hb⟩
    have B9 : Hid (Below w.heap.size w u9) := below_then (below_new B3.out _) hb
    have E9 : Hid (Blk u9 u3.heap.size [.int .i64 10, .int .i64 0, .int .i64 0, .bool false, .bool false, .bool false, .int .u64 1, .int .i64 0, .int .u64 0, .int .i64 0, .int .i64 0, .int .i64 0, .int .i64 0] 30) := E3.out.below hb
    clear hb E3
    have dc0 : u9.cell? ⟨u3.heap.size, 0, none⟩ = some (.int .i64 10) := E9.out.cell 0
    have l3 : u3.heap.size < u9.heap.size := blk_lt E9.out
    go_wp2_with fail
    go_ret
    exact ⟨rfl, B9.out⟩
  · have wf2 : (Wd.mk 11 0 0 0 0 0).wf := fun k => by
      match k with
      | 0 => exact ⟨by decide, by decide⟩
      | 1 => exact ⟨by decide, by decide⟩
      | 2 => exact ⟨by decide, by decide⟩
      | 3 => exact ⟨by decide, by decide⟩
      | 4 => exact ⟨by decide, by decide⟩
      | 5 => exact ⟨by decide, by decide⟩
      | k + 6 =>
        have : (Wd.mk 11 0 0 0 0 0).at (k + 6) = 0 := by simp [Wd.at, Wd.list]
        rw [this]; omega
    have R2 : Hid (∀ W : World, Calls Try.prog 9 #[.agg #[.int .u64 11, .int .u64 0, .int .u64 0, .int .u64 0, .int .u64 0, .int .u64 0]] W fun e w' => e = .returned (.tuple #[.agg #[.int .i64 11, .int .i64 0, .int .i64 0, .bool false, .bool false, .bool false, .int .u64 0, .int .i64 0, .int .u64 0, .int .i64 0, .int .i64 0, .int .i64 0, .int .i64 0], .int .i64 0]) ∧ Below W.heap.size W w') := fun W => read_yes ⟨11, 0, 0, 0, 0, 0⟩ wf2 ⟨11, 0, 0, false, false, false, 0, 0, 0, 0, 0, 0, 0⟩ ⟨1, by decide, fun i h1 h2 => by have : i = 1 ∨ i = 2 ∨ i = 3 ∨ i = 4 ∨ i = 5 := (by omega); rcases this with rfl | rfl | rfl | rfl | rfl <;> rfl⟩ W
    have R1 : Hid (∀ W : World, Calls Try.prog 9 #[.agg #[.int .u64 11, .int .u64 r10, .int .u64 r11, .int .u64 r12, .int .u64 r13, .int .u64 r14]] W fun e w' => (∃ (c : Cl) (er : Int), e = .returned (.tuple #[c.val, .int .i64 er])) ∧ Below W.heap.size W w') := fun W => read_some _ wfa W
    have US2 : Hid (∀ W : World, Calls Try.prog 14 #[.int .u64 11] W fun e w' => e = .returned (.int .i64 0) ∧ w' = W) := fun W => by
      have h : usedV 11 = 0 := by decide
      have := US.out 11 W
      rw [h] at this
      exact this
    clear wfa wf2 US
    go_enter Try.func7, Try.ntmps7
    go_wp2_with fail
    refine (R1.out _).mono ?_
    rintro e u1 ⟨⟨⟨c0, c1, c2, c3, c4, c5, c6, c7, c8, c9, c10, c11, c12⟩, er, rfl⟩, hb⟩
    have B1 : Hid (Below w.heap.size w u1) := below_then (Go.Joins.below_alloc2 _ _ _) hb
    clear hb
    go_wp2_with fail
    refine (US2.out _).mono ?_
    rintro e u2 ⟨rfl, hu⟩
    subst hu
    go_wp2_with fail
    refine (US2.out _).mono ?_
    rintro e u2 ⟨rfl, hu⟩
    subst hu
    go_wp2_with fail
    refine wp_loop_rounds 9 ?_
    rw [rounds_succ]
    go_wp2_with fail
    rw [rounds_succ]
    go_wp2_with fail
    rw [rounds_succ]
    go_wp2_with fail
    rw [rounds_succ]
    go_wp2_with fail
    rw [rounds_succ]
    go_wp2_with fail
    rw [rounds_succ]
    go_wp2_with fail
    refine (R2.out _).mono ?_
    rintro e u3 ⟨rfl, hb⟩
    have B3 : Hid (Below w.heap.size w u3) := below_then (below_new (below_new B1.out _) _) hb
    have E3 : Hid (Blk (u3.alloc (.cells #[.int .i64 11, .int .i64 0, .int .i64 0, .bool false, .bool false, .bool false, .int .u64 0, .int .i64 0, .int .u64 0, .int .i64 0, .int .i64 0, .int .i64 0, .int .i64 0] 30)) u3.heap.size [.int .i64 11, .int .i64 0, .int .i64 0, .bool false, .bool false, .bool false, .int .u64 0, .int .i64 0, .int .u64 0, .int .i64 0, .int .i64 0, .int .i64 0, .int .i64 0] 30) := Blk.made u3 _ _
    clear hb
    go_wp2_with fail
    refine (AWH.out _).mono ?_
    rintro e u9 ⟨rfl, hb⟩
    have B9 : Hid (Below w.heap.size w u9) := below_then (below_new B3.out _) hb
    have E9 : Hid (Blk u9 u3.heap.size [.int .i64 11, .int .i64 0, .int .i64 0, .bool false, .bool false, .bool false, .int .u64 0, .int .i64 0, .int .u64 0, .int .i64 0, .int .i64 0, .int .i64 0, .int .i64 0] 30) := E3.out.below hb
    clear hb E3
    have dc0 : u9.cell? ⟨u3.heap.size, 0, none⟩ = some (.int .i64 11) := E9.out.cell 0
    have l3 : u3.heap.size < u9.heap.size := blk_lt E9.out
    go_wp2_with fail
    go_ret
    exact ⟨rfl, B9.out⟩
  · have wf2 : (Wd.mk 12 1 0 0 0 0).wf := fun k => by
      match k with
      | 0 => exact ⟨by decide, by decide⟩
      | 1 => exact ⟨by decide, by decide⟩
      | 2 => exact ⟨by decide, by decide⟩
      | 3 => exact ⟨by decide, by decide⟩
      | 4 => exact ⟨by decide, by decide⟩
      | 5 => exact ⟨by decide, by decide⟩
      | k + 6 =>
        have : (Wd.mk 12 1 0 0 0 0).at (k + 6) = 0 := by simp [Wd.at, Wd.list]
        rw [this]; omega
    have R2 : Hid (∀ W : World, Calls Try.prog 9 #[.agg #[.int .u64 12, .int .u64 1, .int .u64 0, .int .u64 0, .int .u64 0, .int .u64 0]] W fun e w' => e = .returned (.tuple #[.agg #[.int .i64 12, .int .i64 0, .int .i64 0, .bool false, .bool false, .bool false, .int .u64 0, .int .i64 0, .int .u64 0, .int .i64 1, .int .i64 0, .int .i64 0, .int .i64 0], .int .i64 0]) ∧ Below W.heap.size W w') := fun W => read_yes ⟨12, 1, 0, 0, 0, 0⟩ wf2 ⟨12, 0, 0, false, false, false, 0, 0, 0, 1, 0, 0, 0⟩ ⟨2, by decide, fun i h1 h2 => by have : i = 2 ∨ i = 3 ∨ i = 4 ∨ i = 5 := (by omega); rcases this with rfl | rfl | rfl | rfl <;> rfl⟩ W
    have R1 : Hid (∀ W : World, Calls Try.prog 9 #[.agg #[.int .u64 12, .int .u64 r10, .int .u64 r11, .int .u64 r12, .int .u64 r13, .int .u64 r14]] W fun e w' => (∃ (c : Cl) (er : Int), e = .returned (.tuple #[c.val, .int .i64 er])) ∧ Below W.heap.size W w') := fun W => read_some _ wfa W
    have US2 : Hid (∀ W : World, Calls Try.prog 14 #[.int .u64 12] W fun e w' => e = .returned (.int .i64 1) ∧ w' = W) := fun W => by
      have h : usedV 12 = 1 := by decide
      have := US.out 12 W
      rw [h] at this
      exact this
    clear wfa wf2 US
    go_enter Try.func7, Try.ntmps7
    go_wp2_with fail
    refine (R1.out _).mono ?_
    rintro e u1 ⟨⟨⟨c0, c1, c2, c3, c4, c5, c6, c7, c8, c9, c10, c11, c12⟩, er, rfl⟩, hb⟩
    have B1 : Hid (Below w.heap.size w u1) := below_then (Go.Joins.below_alloc2 _ _ _) hb
    clear hb
    go_wp2_with fail
    refine (US2.out _).mono ?_
    rintro e u2 ⟨rfl, hu⟩
    subst hu
    go_wp2_with fail
    refine (US2.out _).mono ?_
    rintro e u2 ⟨rfl, hu⟩
    subst hu
    go_wp2_with fail
    refine wp_loop_rounds 9 ?_
    rw [rounds_succ]
    go_wp2_with fail
    rw [rounds_succ]
    go_wp2_with fail
    rw [rounds_succ]
    go_wp2_with fail
    rw [rounds_succ]
    go_wp2_with fail
    rw [rounds_succ]
    go_wp2_with fail
    refine (R2.out _).mono ?_
    rintro e u3 ⟨rfl, hb⟩
    have B3 : Hid (Below w.heap.size w u3) := below_then (below_new (below_new B1.out _) _) hb
    have E3 : Hid (Blk (u3.alloc (.cells #[.int .i64 12, .int .i64 0, .int .i64 0, .bool false, .bool false, .bool false, .int .u64 0, .int .i64 0, .int .u64 0, .int .i64 1, .int .i64 0, .int .i64 0, .int .i64 0] 30)) u3.heap.size [.int .i64 12, .int .i64 0, .int .i64 0, .bool false, .bool false, .bool false, .int .u64 0, .int .i64 0, .int .u64 0, .int .i64 1, .int .i64 0, .int .i64 0, .int .i64 0] 30) := Blk.made u3 _ _
    clear hb
    go_wp2_with fail
    refine (AWH.out _).mono ?_
    rintro e u9 ⟨rfl, hb⟩
    have B9 : Hid (Below w.heap.size w u9) := below_then (below_new B3.out _) hb
    have E9 : Hid (Blk u9 u3.heap.size [.int .i64 12, .int .i64 0, .int .i64 0, .bool false, .bool false, .bool false, .int .u64 0, .int .i64 0, .int .u64 0, .int .i64 1, .int .i64 0, .int .i64 0, .int .i64 0] 30) := E3.out.below hb
    clear hb E3
    have dc0 : u9.cell? ⟨u3.heap.size, 0, none⟩ = some (.int .i64 12) := E9.out.cell 0
    have l3 : u3.heap.size < u9.heap.size := blk_lt E9.out
    go_wp2_with fail
    go_ret
    exact ⟨rfl, B9.out⟩
  · have wf2 : (Wd.mk 13 0 0 0 0 0).wf := fun k => by
      match k with
      | 0 => exact ⟨by decide, by decide⟩
      | 1 => exact ⟨by decide, by decide⟩
      | 2 => exact ⟨by decide, by decide⟩
      | 3 => exact ⟨by decide, by decide⟩
      | 4 => exact ⟨by decide, by decide⟩
      | 5 => exact ⟨by decide, by decide⟩
      | k + 6 =>
        have : (Wd.mk 13 0 0 0 0 0).at (k + 6) = 0 := by simp [Wd.at, Wd.list]
        rw [this]; omega
    have R2 : Hid (∀ W : World, Calls Try.prog 9 #[.agg #[.int .u64 13, .int .u64 0, .int .u64 0, .int .u64 0, .int .u64 0, .int .u64 0]] W fun e w' => e = .returned (.tuple #[.agg #[.int .i64 13, .int .i64 0, .int .i64 0, .bool false, .bool false, .bool false, .int .u64 0, .int .i64 0, .int .u64 0, .int .i64 0, .int .i64 0, .int .i64 0, .int .i64 0], .int .i64 0]) ∧ Below W.heap.size W w') := fun W => read_yes ⟨13, 0, 0, 0, 0, 0⟩ wf2 ⟨13, 0, 0, false, false, false, 0, 0, 0, 0, 0, 0, 0⟩ ⟨1, by decide, fun i h1 h2 => by have : i = 1 ∨ i = 2 ∨ i = 3 ∨ i = 4 ∨ i = 5 := (by omega); rcases this with rfl | rfl | rfl | rfl | rfl <;> rfl⟩ W
    have R1 : Hid (∀ W : World, Calls Try.prog 9 #[.agg #[.int .u64 13, .int .u64 r10, .int .u64 r11, .int .u64 r12, .int .u64 r13, .int .u64 r14]] W fun e w' => (∃ (c : Cl) (er : Int), e = .returned (.tuple #[c.val, .int .i64 er])) ∧ Below W.heap.size W w') := fun W => read_some _ wfa W
    have US2 : Hid (∀ W : World, Calls Try.prog 14 #[.int .u64 13] W fun e w' => e = .returned (.int .i64 0) ∧ w' = W) := fun W => by
      have h : usedV 13 = 0 := by decide
      have := US.out 13 W
      rw [h] at this
      exact this
    clear wfa wf2 US
    go_enter Try.func7, Try.ntmps7
    go_wp2_with fail
    refine (R1.out _).mono ?_
    rintro e u1 ⟨⟨⟨c0, c1, c2, c3, c4, c5, c6, c7, c8, c9, c10, c11, c12⟩, er, rfl⟩, hb⟩
    have B1 : Hid (Below w.heap.size w u1) := below_then (Go.Joins.below_alloc2 _ _ _) hb
    clear hb
    go_wp2_with fail
    refine (US2.out _).mono ?_
    rintro e u2 ⟨rfl, hu⟩
    subst hu
    go_wp2_with fail
    refine (US2.out _).mono ?_
    rintro e u2 ⟨rfl, hu⟩
    subst hu
    go_wp2_with fail
    refine wp_loop_rounds 9 ?_
    rw [rounds_succ]
    go_wp2_with fail
    rw [rounds_succ]
    go_wp2_with fail
    rw [rounds_succ]
    go_wp2_with fail
    rw [rounds_succ]
    go_wp2_with fail
    rw [rounds_succ]
    go_wp2_with fail
    rw [rounds_succ]
    go_wp2_with fail
    refine (R2.out _).mono ?_
    rintro e u3 ⟨rfl, hb⟩
    have B3 : Hid (Below w.heap.size w u3) := below_then (below_new (below_new B1.out _) _) hb
    have E3 : Hid (Blk (u3.alloc (.cells #[.int .i64 13, .int .i64 0, .int .i64 0, .bool false, .bool false, .bool false, .int .u64 0, .int .i64 0, .int .u64 0, .int .i64 0, .int .i64 0, .int .i64 0, .int .i64 0] 30)) u3.heap.size [.int .i64 13, .int .i64 0, .int .i64 0, .bool false, .bool false, .bool false, .int .u64 0, .int .i64 0, .int .u64 0, .int .i64 0, .int .i64 0, .int .i64 0, .int .i64 0] 30) := Blk.made u3 _ _
    clear hb
    go_wp2_with fail
    refine (AWH.out _).mono ?_
    rintro e u9 ⟨rfl, hb⟩
    have B9 : Hid (Below w.heap.size w u9) := below_then (below_new B3.out _) hb
    have E9 : Hid (Blk u9 u3.heap.size [.int .i64 13, .int .i64 0, .int .i64 0, .bool false, .bool false, .bool false, .int .u64 0, .int .i64 0, .int .u64 0, .int .i64 0, .int .i64 0, .int .i64 0, .int .i64 0] 30) := E3.out.below hb
    clear hb E3
    have dc0 : u9.cell? ⟨u3.heap.size, 0, none⟩ = some (.int .i64 13) := E9.out.cell 0
    have l3 : u3.heap.size < u9.heap.size := blk_lt E9.out
    go_wp2_with fail
    go_ret
    exact ⟨rfl, B9.out⟩
  · have wf2 : (Wd.mk 14 0 0 0 0 0).wf := fun k => by
      match k with
      | 0 => exact ⟨by decide, by decide⟩
      | 1 => exact ⟨by decide, by decide⟩
      | 2 => exact ⟨by decide, by decide⟩
      | 3 => exact ⟨by decide, by decide⟩
      | 4 => exact ⟨by decide, by decide⟩
      | 5 => exact ⟨by decide, by decide⟩
      | k + 6 =>
        have : (Wd.mk 14 0 0 0 0 0).at (k + 6) = 0 := by simp [Wd.at, Wd.list]
        rw [this]; omega
    have R2 : Hid (∀ W : World, Calls Try.prog 9 #[.agg #[.int .u64 14, .int .u64 0, .int .u64 0, .int .u64 0, .int .u64 0, .int .u64 0]] W fun e w' => e = .returned (.tuple #[.agg #[.int .i64 14, .int .i64 0, .int .i64 0, .bool false, .bool false, .bool false, .int .u64 0, .int .i64 0, .int .u64 0, .int .i64 0, .int .i64 0, .int .i64 0, .int .i64 0], .int .i64 0]) ∧ Below W.heap.size W w') := fun W => read_yes ⟨14, 0, 0, 0, 0, 0⟩ wf2 ⟨14, 0, 0, false, false, false, 0, 0, 0, 0, 0, 0, 0⟩ ⟨1, by decide, fun i h1 h2 => by have : i = 1 ∨ i = 2 ∨ i = 3 ∨ i = 4 ∨ i = 5 := (by omega); rcases this with rfl | rfl | rfl | rfl | rfl <;> rfl⟩ W
    have R1 : Hid (∀ W : World, Calls Try.prog 9 #[.agg #[.int .u64 14, .int .u64 r10, .int .u64 r11, .int .u64 r12, .int .u64 r13, .int .u64 r14]] W fun e w' => (∃ (c : Cl) (er : Int), e = .returned (.tuple #[c.val, .int .i64 er])) ∧ Below W.heap.size W w') := fun W => read_some _ wfa W
    have US2 : Hid (∀ W : World, Calls Try.prog 14 #[.int .u64 14] W fun e w' => e = .returned (.int .i64 0) ∧ w' = W) := fun W => by
      have h : usedV 14 = 0 := by decide
      have := US.out 14 W
      rw [h] at this
      exact this
    clear wfa wf2 US
    go_enter Try.func7, Try.ntmps7
    go_wp2_with fail
    refine (R1.out _).mono ?_
    rintro e u1 ⟨⟨⟨c0, c1, c2, c3, c4, c5, c6, c7, c8, c9, c10, c11, c12⟩, er, rfl⟩, hb⟩
    have B1 : Hid (Below w.heap.size w u1) := below_then (Go.Joins.below_alloc2 _ _ _) hb
    clear hb
    go_wp2_with fail
    refine (US2.out _).mono ?_
    rintro e u2 ⟨rfl, hu⟩
    subst hu
    go_wp2_with fail
    refine (US2.out _).mono ?_
    rintro e u2 ⟨rfl, hu⟩
    subst hu
    go_wp2_with fail
    refine wp_loop_rounds 9 ?_
    rw [rounds_succ]
    go_wp2_with fail
    rw [rounds_succ]
    go_wp2_with fail
    rw [rounds_succ]
    go_wp2_with fail
    rw [rounds_succ]
    go_wp2_with fail
    rw [rounds_succ]
    go_wp2_with fail
    rw [rounds_succ]
    go_wp2_with fail
    refine (R2.out _).mono ?_
    rintro e u3 ⟨rfl, hb⟩
    have B3 : Hid (Below w.heap.size w u3) := below_then (below_new (below_new B1.out _) _) hb
    have E3 : Hid (Blk (u3.alloc (.cells #[.int .i64 14, .int .i64 0, .int .i64 0, .bool false, .bool false, .bool false, .int .u64 0, .int .i64 0, .int .u64 0, .int .i64 0, .int .i64 0, .int .i64 0, .int .i64 0] 30)) u3.heap.size [.int .i64 14, .int .i64 0, .int .i64 0, .bool false, .bool false, .bool false, .int .u64 0, .int .i64 0, .int .u64 0, .int .i64 0, .int .i64 0, .int .i64 0, .int .i64 0] 30) := Blk.made u3 _ _
    clear hb
    go_wp2_with fail
    refine (AWH.out _).mono ?_
    rintro e u9 ⟨rfl, hb⟩
    have B9 : Hid (Below w.heap.size w u9) := below_then (below_new B3.out _) hb
    have E9 : Hid (Blk u9 u3.heap.size [.int .i64 14, .int .i64 0, .int .i64 0, .bool false, .bool false, .bool false, .int .u64 0, .int .i64 0, .int .u64 0, .int .i64 0, .int .i64 0, .int .i64 0, .int .i64 0] 30) := E3.out.below hb
    clear hb E3
    have dc0 : u9.cell? ⟨u3.heap.size, 0, none⟩ = some (.int .i64 14) := E9.out.cell 0
    have l3 : u3.heap.size < u9.heap.size := blk_lt E9.out
    go_wp2_with fail
    go_ret
    exact ⟨rfl, B9.out⟩
  · have wf2 : (Wd.mk 15 1 1 0 0 0).wf := fun k => by
      match k with
      | 0 => exact ⟨by decide, by decide⟩
      | 1 => exact ⟨by decide, by decide⟩
      | 2 => exact ⟨by decide, by decide⟩
      | 3 => exact ⟨by decide, by decide⟩
      | 4 => exact ⟨by decide, by decide⟩
      | 5 => exact ⟨by decide, by decide⟩
      | k + 6 =>
        have : (Wd.mk 15 1 1 0 0 0).at (k + 6) = 0 := by simp [Wd.at, Wd.list]
        rw [this]; omega
    have R2 : Hid (∀ W : World, Calls Try.prog 9 #[.agg #[.int .u64 15, .int .u64 1, .int .u64 1, .int .u64 0, .int .u64 0, .int .u64 0]] W fun e w' => e = .returned (.tuple #[.agg #[.int .i64 15, .int .i64 0, .int .i64 0, .bool false, .bool false, .bool false, .int .u64 0, .int .i64 0, .int .u64 0, .int .i64 2, .int .i64 1, .int .i64 0, .int .i64 0], .int .i64 0]) ∧ Below W.heap.size W w') := fun W => read_yes ⟨15, 1, 1, 0, 0, 0⟩ wf2 ⟨15, 0, 0, false, false, false, 0, 0, 0, 2, 1, 0, 0⟩ ⟨5, by decide, fun i h1 h2 => by have : i = 5 := (by omega); subst this; rfl⟩ W
    have R1 : Hid (∀ W : World, Calls Try.prog 9 #[.agg #[.int .u64 15, .int .u64 r10, .int .u64 r11, .int .u64 r12, .int .u64 r13, .int .u64 r14]] W fun e w' => (∃ (c : Cl) (er : Int), e = .returned (.tuple #[c.val, .int .i64 er])) ∧ Below W.heap.size W w') := fun W => read_some _ wfa W
    have US2 : Hid (∀ W : World, Calls Try.prog 14 #[.int .u64 15] W fun e w' => e = .returned (.int .i64 4) ∧ w' = W) := fun W => by
      have h : usedV 15 = 4 := by decide
      have := US.out 15 W
      rw [h] at this
      exact this
    clear wfa wf2 US
    go_enter Try.func7, Try.ntmps7
    go_wp2_with fail
    refine (R1.out _).mono ?_
    rintro e u1 ⟨⟨⟨c0, c1, c2, c3, c4, c5, c6, c7, c8, c9, c10, c11, c12⟩, er, rfl⟩, hb⟩
    have B1 : Hid (Below w.heap.size w u1) := below_then (Go.Joins.below_alloc2 _ _ _) hb
    clear hb
    go_wp2_with fail
    refine (US2.out _).mono ?_
    rintro e u2 ⟨rfl, hu⟩
    subst hu
    go_wp2_with fail
    refine (US2.out _).mono ?_
    rintro e u2 ⟨rfl, hu⟩
    subst hu
    go_wp2_with fail
    refine wp_loop_rounds 9 ?_
    rw [rounds_succ]
    go_wp2_with fail
    rw [rounds_succ]
    go_wp2_with fail
    refine (R2.out _).mono ?_
    rintro e u3 ⟨rfl, hb⟩
    have B3 : Hid (Below w.heap.size w u3) := below_then (below_new (below_new B1.out _) _) hb
    have E3 : Hid (Blk (u3.alloc (.cells #[.int .i64 15, .int .i64 0, .int .i64 0, .bool false, .bool false, .bool false, .int .u64 0, .int .i64 0, .int .u64 0, .int .i64 2, .int .i64 1, .int .i64 0, .int .i64 0] 30)) u3.heap.size [.int .i64 15, .int .i64 0, .int .i64 0, .bool false, .bool false, .bool false, .int .u64 0, .int .i64 0, .int .u64 0, .int .i64 2, .int .i64 1, .int .i64 0, .int .i64 0] 30) := Blk.made u3 _ _
    clear hb
    go_wp2_with fail
    refine (AWH.out _).mono ?_
    rintro e u9 ⟨rfl, hb⟩
    have B9 : Hid (Below w.heap.size w u9) := below_then (below_new B3.out _) hb
    have E9 : Hid (Blk u9 u3.heap.size [.int .i64 15, .int .i64 0, .int .i64 0, .bool false, .bool false, .bool false, .int .u64 0, .int .i64 0, .int .u64 0, .int .i64 2, .int .i64 1, .int .i64 0, .int .i64 0] 30) := E3.out.below hb
    clear hb E3
    have dc0 : u9.cell? ⟨u3.heap.size, 0, none⟩ = some (.int .i64 15) := E9.out.cell 0
    have l3 : u3.heap.size < u9.heap.size := blk_lt E9.out
    go_wp2_with fail
    go_ret
    exact ⟨rfl, B9.out⟩
  · have wf2 : (Wd.mk 16 1 1 0 0 0).wf := fun k => by
      match k with
      | 0 => exact ⟨by decide, by decide⟩
      | 1 => exact ⟨by decide, by decide⟩
      | 2 => exact ⟨by decide, by decide⟩
      | 3 => exact ⟨by decide, by decide⟩
      | 4 => exact ⟨by decide, by decide⟩
      | 5 => exact ⟨by decide, by decide⟩
      | k + 6 =>
        have : (Wd.mk 16 1 1 0 0 0).at (k + 6) = 0 := by simp [Wd.at, Wd.list]
        rw [this]; omega
    have R2 : Hid (∀ W : World, Calls Try.prog 9 #[.agg #[.int .u64 16, .int .u64 1, .int .u64 1, .int .u64 0, .int .u64 0, .int .u64 0]] W fun e w' => e = .returned (.tuple #[.agg #[.int .i64 16, .int .i64 0, .int .i64 0, .bool false, .bool false, .bool false, .int .u64 0, .int .i64 0, .int .u64 1, .int .i64 1, .int .i64 0, .int .i64 0, .int .i64 0], .int .i64 0]) ∧ Below W.heap.size W w') := fun W => read_yes ⟨16, 1, 1, 0, 0, 0⟩ wf2 ⟨16, 0, 0, false, false, false, 0, 0, 1, 1, 0, 0, 0⟩ ⟨3, by decide, fun i h1 h2 => by have : i = 3 ∨ i = 4 ∨ i = 5 := (by omega); rcases this with rfl | rfl | rfl <;> rfl⟩ W
    have R1 : Hid (∀ W : World, Calls Try.prog 9 #[.agg #[.int .u64 16, .int .u64 r10, .int .u64 r11, .int .u64 r12, .int .u64 r13, .int .u64 r14]] W fun e w' => (∃ (c : Cl) (er : Int), e = .returned (.tuple #[c.val, .int .i64 er])) ∧ Below W.heap.size W w') := fun W => read_some _ wfa W
    have US2 : Hid (∀ W : World, Calls Try.prog 14 #[.int .u64 16] W fun e w' => e = .returned (.int .i64 2) ∧ w' = W) := fun W => by
      have h : usedV 16 = 2 := by decide
      have := US.out 16 W
      rw [h] at this
      exact this
    clear wfa wf2 US
    go_enter Try.func7, Try.ntmps7
    go_wp2_with fail
    refine (R1.out _).mono ?_
    rintro e u1 ⟨⟨⟨c0, c1, c2, c3, c4, c5, c6, c7, c8, c9, c10, c11, c12⟩, er, rfl⟩, hb⟩
    have B1 : Hid (Below w.heap.size w u1) := below_then (Go.Joins.below_alloc2 _ _ _) hb
    clear hb
    go_wp2_with fail
    refine (US2.out _).mono ?_
    rintro e u2 ⟨rfl, hu⟩
    subst hu
    go_wp2_with fail
    refine (US2.out _).mono ?_
    rintro e u2 ⟨rfl, hu⟩
    subst hu
    go_wp2_with fail
    refine wp_loop_rounds 9 ?_
    rw [rounds_succ]
    go_wp2_with fail
    rw [rounds_succ]
    go_wp2_with fail
    rw [rounds_succ]
    go_wp2_with fail
    rw [rounds_succ]
    go_wp2_with fail
    refine (R2.out _).mono ?_
    rintro e u3 ⟨rfl, hb⟩
    have B3 : Hid (Below w.heap.size w u3) := below_then (below_new (below_new B1.out _) _) hb
    have E3 : Hid (Blk (u3.alloc (.cells #[.int .i64 16, .int .i64 0, .int .i64 0, .bool false, .bool false, .bool false, .int .u64 0, .int .i64 0, .int .u64 1, .int .i64 1, .int .i64 0, .int .i64 0, .int .i64 0] 30)) u3.heap.size [.int .i64 16, .int .i64 0, .int .i64 0, .bool false, .bool false, .bool false, .int .u64 0, .int .i64 0, .int .u64 1, .int .i64 1, .int .i64 0, .int .i64 0, .int .i64 0] 30) := Blk.made u3 _ _
    clear hb
    go_wp2_with fail
    refine (AWH.out _).mono ?_
    rintro e u9 ⟨rfl, hb⟩
    have B9 : Hid (Below w.heap.size w u9) := below_then (below_new B3.out _) hb
    have E9 : Hid (Blk u9 u3.heap.size [.int .i64 16, .int .i64 0, .int .i64 0, .bool false, .bool false, .bool false, .int .u64 0, .int .i64 0, .int .u64 1, .int .i64 1, .int .i64 0, .int .i64 0, .int .i64 0] 30) := E3.out.below hb
    clear hb E3
    have dc0 : u9.cell? ⟨u3.heap.size, 0, none⟩ = some (.int .i64 16) := E9.out.cell 0
    have l3 : u3.heap.size < u9.heap.size := blk_lt E9.out
    go_wp2_with fail
    go_ret
    exact ⟨rfl, B9.out⟩

theorem own : ownKnob Try.prog.godebug = none := by kernel_rfl
theorem laidOut : laidOutB Try.prog = true := by kernel_rfl
set_option maxRecDepth 100000 in
theorem lifted (os : Os) (started : os.Started) (H : Type) (enc : TypeId × Value → H) :
    ReturnsInHanded {} Try.checked os 7 .any (Rows.callOpsSpec.pre6 enc Try.prog Try.f7 Rows.callOpsRow.domain false) (Rows.callOpsSpec.post enc Try.prog Try.f7 false true false false) := by
  refine returnsInHanded_of_change (C := Try.checked) own started (by kernel_rfl) Try.func7
    (ChangeSpec.witness6 (enc := enc) (C := Try.checked) false ⟨#[], #[.int .u64 0, .agg #[.int .u64 0, .int .u64 0, .int .u64 0, .int .u64 0, .int .u64 0]], []⟩ 8 (by kernel_rfl) (by kernel_rfl) (by kernel_rfl) (by kernel_rfl)) ?_
  intro W base args ds gs before hval0 hW hcnd _
  have hval : ∀ (j : Nat) t v, Try.f7.params[j]? = some t → args[j]? = some v → Value.okWide Try.prog W .any base t v := hval0
  have hW' := hW
  obtain ⟨p, q, hA0, hV, hbef, hfz, hnd⟩ := hW
  have hA : DataW.TrodAll enc Try.prog W 0 (fun _ => true) true Try.f7.params.toList args.toList ds p := hA0
  have hAk := hA
  have hlt : ∀ x ∈ p, x.block < W.heap.size := fun x hx => hW'.lt x (by rw [hbef]; exact List.mem_append_left _ hx)
  rw [Try.params7] at hA hval
  obtain ⟨v0, vs0, d0, ds0, p0, q0, hargs, rfl, hp0, h0, r0⟩ := trodAll_cons hA
  obtain ⟨v1, vs1, d1, ds1, p1, q1, rfl, rfl, hp1, h1, r1⟩ := trodAll_cons r0
  obtain ⟨rfl, rfl, hpz⟩ := trodAll_nil r1
  obtain rfl : args = #[v0, v1] := by cases args; simp_all
  obtain ⟨rfl, rfl⟩ := trodVars_none hV
  obtain ⟨a0, rfl, _, _, w0⟩ := open_int Try.underlying22 (hval 0 22 v0 rfl rfl) h0
  obtain ⟨r10, r11, r12, r13, r14, rfl, w10, w11, w12, w13, w14⟩ := open_w5 (hval 1 47 v1 rfl rfl) h1
  clear hA0 hval0
  refine (walk a0 w0 r10 r11 r12 r13 r14 w10 w11 w12 w13 w14 W ).mono fun e W' ⟨he, hg⟩ => ?_
  subst he
  exact ⟨_, rfl, ⟨_, _, _, [], p, [], hW', (trodAll_cons_mk (shut_bool Try.underlying4 _) trodAll_mk0), args_stay laidOut hg (by kernel_rfl) hAk hlt, rfl, hg.frame _, fun h => by cases h⟩⟩

theorem over : Rows.callOpsRow.holds Try.pinned (OpenSpec.ofChange Rows.callOpsSpec) :=
  OpenClaim.holds_of_wide 7 Try.f7 rfl rfl rfl rfl rfl rfl rfl ⟨rfl, rfl, rfl, rfl, rfl⟩ rfl rfl rfl rfl rfl (by kernel_rfl) Try.func7 (by kernel_rfl)
    (of_decide_eq_true (by kernel_rfl)) (by unfold Func.isWrapper; first | (rw [if_pos (by decide +kernel)]; kernel_rfl) | (rw [if_neg (by decide +kernel)]; exact ⟨rfl, rfl⟩))
    (fun os started H enc _ => lifted os started H enc)

theorem proved : Rows.CallOpsSaid :=
  over
#print axioms proved
end Go.Proofs.Ytccbacjiiffheaa.callOps
