/- Calls are spelled in one way: the walks. -/
import Derived.Test.YtccbacjiiffheaaCV
import Derived.Test.YtccbacjiiffheaaCR
import Derived.Deep.DeepCutAuto
namespace Go.Proofs.Ytccbacjiiffheaa
open Go.ChangeShapes Go.WideShapes Go.ChangeAt Go.RowKit Go.Maps
set_option linter.unusedSimpArgs false
set_option linter.unusedVariables false

set_option maxRecDepth 8000 in
set_option maxHeartbeats 8000000 in
theorem wrA1 (c0 c1 c2 c6 c7 c8 c9 c10 c11 c12 : Int) (c3 c4 c5 : Bool) (x0 x1 x2 x3 x4 x5 : Int) (y0 y1 y2 y3 y4 y5 : Int)  (W0 : World)
    (WC : Hid (∀ W : World, Calls Try.prog 13 #[.agg #[.int .i64 c0, .int .i64 c1, .int .i64 c2, .bool c3, .bool c4, .bool c5, .int .u64 c6, .int .i64 c7, .int .u64 c8, .int .i64 c9, .int .i64 c10, .int .i64 c11, .int .i64 c12]] W fun e w' => e = .returned (.tuple #[.agg #[.int .u64 y0, .int .u64 y1, .int .u64 y2, .int .u64 y3, .int .u64 y4, .int .u64 y5], .int .i64 0]) ∧ Below W.heap.size W w'))
    (RC : Hid (∀ W : World, Calls Try.prog 10 #[.agg #[.int .u64 y0, .int .u64 y1, .int .u64 y2, .int .u64 y3, .int .u64 y4, .int .u64 y5]] W fun e w' => e = .returned (.tuple #[.agg #[.int .i64 c0, .int .i64 c1, .int .i64 c2, .bool c3, .bool c4, .bool c5, .int .u64 c6, .int .i64 c7, .int .u64 c8, .int .i64 c9, .int .i64 c10, .int .i64 c11, .int .i64 c12], .bool true]) ∧ Below W.heap.size W w'))
    (TDC : Hid (∀ W : World, Calls Try.prog 12 #[.agg #[.int .i64 c0, .int .i64 c1, .int .i64 c2, .bool c3, .bool c4, .bool c5, .int .u64 c6, .int .i64 c7, .int .u64 c8, .int .i64 c9, .int .i64 c10, .int .i64 c11, .int .i64 c12]] W fun e w' => e = .returned (.agg #[.int .i64 c0, .int .i64 c1, .int .i64 c2, .bool c3, .bool c4, .bool c5, .int .u64 c6, .int .i64 c7, .int .u64 c8, .int .i64 c9, .int .i64 c10, .int .i64 c11, .int .i64 c12]) ∧ Below W.heap.size W w'))
    (NX : ∀ W : World, (binOp .neq 35 (.agg #[.int .i64 c0, .int .i64 c1, .int .i64 c2, .bool c3, .bool c4, .bool c5, .int .u64 c6, .int .i64 c7, .int .u64 c8, .int .i64 c9, .int .i64 c10, .int .i64 c11, .int .i64 c12]) (.agg #[.int .i64 c0, .int .i64 c1, .int .i64 c2, .bool c3, .bool c4, .bool c5, .int .u64 c6, .int .i64 c7, .int .u64 c8, .int .i64 c9, .int .i64 c10, .int .i64 c11, .int .i64 c12])).run Try.prog W = .ok (.bool false) W)
    (R1 : Hid (∀ W : World, Calls Try.prog 9 #[.agg #[.int .u64 x0, .int .u64 x1, .int .u64 x2, .int .u64 x3, .int .u64 x4, .int .u64 x5]] W fun e w' => e = .returned (.tuple #[.agg #[.int .i64 0, .int .i64 0, .int .i64 0, .bool false, .bool false, .bool false, .int .u64 0, .int .i64 0, .int .u64 0, .int .i64 0, .int .i64 0, .int .i64 0, .int .i64 0], .int .i64 13]) ∧ Below W.heap.size W w')) : Calls Try.prog 4 #[.agg #[.int .i64 c0, .int .i64 c1, .int .i64 c2, .bool c3, .bool c4, .bool c5, .int .u64 c6, .int .i64 c7, .int .u64 c8, .int .i64 c9, .int .i64 c10, .int .i64 c11, .int .i64 c12], .agg #[.int .u64 x0, .int .u64 x1, .int .u64 x2, .int .u64 x3, .int .u64 x4, .int .u64 x5]] W0 fun e w' => e = .returned (.bool true) ∧ Below W0.heap.size W0 w' := by
  have AWH : Hid (∀ W : World, Calls Try.prog 11 #[] W fun e w' => e = .returned (.bool true) ∧ Below W.heap.size W w') := fun W => awake_any W
  have P0 : Hid (Blk ((W0.alloc (.cells #[.int .i64 c0, .int .i64 c1, .int .i64 c2, .bool c3, .bool c4, .bool c5, .int .u64 c6, .int .i64 c7, .int .u64 c8, .int .i64 c9, .int .i64 c10, .int .i64 c11, .int .i64 c12] 30)).alloc (.cells #[.int .u64 x0, .int .u64 x1, .int .u64 x2, .int .u64 x3, .int .u64 x4, .int .u64 x5] 24)) W0.heap.size [.int .i64 c0, .int .i64 c1, .int .i64 c2, .bool c3, .bool c4, .bool c5, .int .u64 c6, .int .i64 c7, .int .u64 c8, .int .i64 c9, .int .i64 c10, .int .i64 c11, .int .i64 c12] 30) := (Blk.made W0 _ _).below (Go.Joins.below_alloc1 _ _)
  have Z0 : Hid (Blk ((W0.alloc (.cells #[.int .i64 c0, .int .i64 c1, .int .i64 c2, .bool c3, .bool c4, .bool c5, .int .u64 c6, .int .i64 c7, .int .u64 c8, .int .i64 c9, .int .i64 c10, .int .i64 c11, .int .i64 c12] 30)).alloc (.cells #[.int .u64 x0, .int .u64 x1, .int .u64 x2, .int .u64 x3, .int .u64 x4, .int .u64 x5] 24)) (W0.heap.size + 1) [.int .u64 x0, .int .u64 x1, .int .u64 x2, .int .u64 x3, .int .u64 x4, .int .u64 x5] 24) := by
    have := Blk.made (W0.alloc (.cells #[.int .i64 c0, .int .i64 c1, .int .i64 c2, .bool c3, .bool c4, .bool c5, .int .u64 c6, .int .i64 c7, .int .u64 c8, .int .i64 c9, .int .i64 c10, .int .i64 c11, .int .i64 c12] 30)) [.int .u64 x0, .int .u64 x1, .int .u64 x2, .int .u64 x3, .int .u64 x4, .int .u64 x5] 24
    rw [World.size_alloc] at this; exact this
  go_enter Try.func4, Try.ntmps4
  go_wp2_with fail
  refine (WC.out _).mono ?_
  rintro e u1 ⟨rfl, hb⟩
  have B1 : Hid (Below W0.heap.size W0 (u1.alloc (.cells #[.int .u64 y0, .int .u64 y1, .int .u64 y2, .int .u64 y3, .int .u64 y4, .int .u64 y5] 24))) := below_new (below_then (Go.Joins.below_alloc2 _ _ _) hb) _
  have P1 : Hid (Blk (u1.alloc (.cells #[.int .u64 y0, .int .u64 y1, .int .u64 y2, .int .u64 y3, .int .u64 y4, .int .u64 y5] 24)) W0.heap.size [.int .i64 c0, .int .i64 c1, .int .i64 c2, .bool c3, .bool c4, .bool c5, .int .u64 c6, .int .i64 c7, .int .u64 c8, .int .i64 c9, .int .i64 c10, .int .i64 c11, .int .i64 c12] 30) := (P0.out.below hb).below (Go.Joins.below_alloc1 _ _)
  have Z1 : Hid (Blk (u1.alloc (.cells #[.int .u64 y0, .int .u64 y1, .int .u64 y2, .int .u64 y3, .int .u64 y4, .int .u64 y5] 24)) (W0.heap.size + 1) [.int .u64 x0, .int .u64 x1, .int .u64 x2, .int .u64 x3, .int .u64 x4, .int .u64 x5] 24) := (Z0.out.below hb).below (Go.Joins.below_alloc1 _ _)
  clear hb P0 Z0
  go_wp2_with fail
  refine (RC.out _).mono ?_
  rintro e u2 ⟨rfl, hb⟩
  have BD : Hid (Below W0.heap.size W0 (u2.alloc (.cells #[.int .i64 c0, .int .i64 c1, .int .i64 c2, .bool c3, .bool c4, .bool c5, .int .u64 c6, .int .i64 c7, .int .u64 c8, .int .i64 c9, .int .i64 c10, .int .i64 c11, .int .i64 c12] 35)).drew) := below_drew (below_new (below_then B1.out hb) _)
  have KD : Hid (Blk (u2.alloc (.cells #[.int .i64 c0, .int .i64 c1, .int .i64 c2, .bool c3, .bool c4, .bool c5, .int .u64 c6, .int .i64 c7, .int .u64 c8, .int .i64 c9, .int .i64 c10, .int .i64 c11, .int .i64 c12] 35)).drew W0.heap.size [.int .i64 c0, .int .i64 c1, .int .i64 c2, .bool c3, .bool c4, .bool c5, .int .u64 c6, .int .i64 c7, .int .u64 c8, .int .i64 c9, .int .i64 c10, .int .i64 c11, .int .i64 c12] 30) := (P1.out.below hb).below (below_drew (Go.Joins.below_alloc1 _ _))
  have ZD : Hid (Blk (u2.alloc (.cells #[.int .i64 c0, .int .i64 c1, .int .i64 c2, .bool c3, .bool c4, .bool c5, .int .u64 c6, .int .i64 c7, .int .u64 c8, .int .i64 c9, .int .i64 c10, .int .i64 c11, .int .i64 c12] 35)).drew (W0.heap.size + 1) [.int .u64 x0, .int .u64 x1, .int .u64 x2, .int .u64 x3, .int .u64 x4, .int .u64 x5] 24) := (Z1.out.below hb).below (below_drew (Go.Joins.below_alloc1 _ _))
  have XD : Hid (Blk (u2.alloc (.cells #[.int .i64 c0, .int .i64 c1, .int .i64 c2, .bool c3, .bool c4, .bool c5, .int .u64 c6, .int .i64 c7, .int .u64 c8, .int .i64 c9, .int .i64 c10, .int .i64 c11, .int .i64 c12] 35)).drew u2.heap.size [.int .i64 c0, .int .i64 c1, .int .i64 c2, .bool c3, .bool c4, .bool c5, .int .u64 c6, .int .i64 c7, .int .u64 c8, .int .i64 c9, .int .i64 c10, .int .i64 c11, .int .i64 c12] 35) := Blk.made u2 _ _
  clear hb P1 Z1 B1
  go_upto_region 4 with fail
  refine wp_region_noPanic ?_
  refine wp_region_held_drew (S := fun c => Hid (Blk c W0.heap.size [.int .i64 c0, .int .i64 c1, .int .i64 c2, .bool c3, .bool c4, .bool c5, .int .u64 c6, .int .i64 c7, .int .u64 c8, .int .i64 c9, .int .i64 c10, .int .i64 c11, .int .i64 c12] 30) ∧ Hid (Blk c u2.heap.size [.int .i64 c0, .int .i64 c1, .int .i64 c2, .bool c3, .bool c4, .bool c5, .int .u64 c6, .int .i64 c7, .int .u64 c8, .int .i64 c9, .int .i64 c10, .int .i64 c11, .int .i64 c12] 35)) (by kernel_rfl) ?_ (fun hHeld => ?_)
  · exact ⟨KD.out, XD.out⟩
  generalize (u2.alloc (.cells #[.int .i64 c0, .int .i64 c1, .int .i64 c2, .bool c3, .bool c4, .bool c5, .int .u64 c6, .int .i64 c7, .int .u64 c8, .int .i64 c9, .int .i64 c10, .int .i64 c11, .int .i64 c12] 35)).drew = U at BD KD ZD XD hHeld ⊢
  refine wpAnyH_take (i := 0) (oi := ⟨some 25, _, _, _, _, none⟩) (v := ?_) rfl (by kernel_rfl) (by kernel_rfl) (by kernel_rfl) (fun _ _ _ h => h) (Or.inl ⟨by rfl, ?_⟩) (by assumption) ?_
  rotate_left
  · intro w hSw; (try dsimp only at hSw); go_simp; (try with_reducible rfl)
  try simp only [Act.put, List.setIfInBounds_toArray, List.set_cons_zero, List.set_cons_succ]
  refine wpAnyH_take (i := 1) (oi := ⟨some 26, _, _, _, _, none⟩) (v := ?_) rfl (by kernel_rfl) (by kernel_rfl) (by kernel_rfl) (fun _ _ _ h => h) (Or.inl ⟨by rfl, ?_⟩) (by assumption) ?_
  rotate_left
  · intro w hSw; (try dsimp only at hSw); go_simp; (try with_reducible rfl)
  try simp only [Act.put, List.setIfInBounds_toArray, List.set_cons_zero, List.set_cons_succ]
  refine wpAnyH_take (i := 2) (oi := ⟨some 27, _, _, _, _, none⟩) (v := ?_) rfl (by kernel_rfl) (by kernel_rfl) (by kernel_rfl) (fun _ _ _ h => h) (Or.inl ⟨by rfl, ?_⟩) (by assumption) ?_
  rotate_left
  · intro w hSw; (try dsimp only at hSw); go_simp; (try with_reducible rfl)
  try simp only [Act.put, List.setIfInBounds_toArray, List.set_cons_zero, List.set_cons_succ]
  refine wpAnyH_take (i := 3) (oi := ⟨some 28, _, _, _, _, some (2, false)⟩) (v := (.agg #[.int .i64 c0, .int .i64 c1, .int .i64 c2, .bool c3, .bool c4, .bool c5, .int .u64 c6, .int .i64 c7, .int .u64 c8, .int .i64 c9, .int .i64 c10, .int .i64 c11, .int .i64 c12])) rfl (by kernel_rfl) (by kernel_rfl) (by kernel_rfl) (fun _ _ _ h => h) (Or.inl ⟨by rfl, ?_⟩) (by assumption) ?_
  · intro w hSw; (try dsimp only at hSw); have q0 : w.cell? ⟨u2.heap.size, 0, none⟩ = some (.int .i64 c0) := hSw.2.out.cell 0; have q1 : w.cell? ⟨u2.heap.size, 1, none⟩ = some (.int .i64 c1) := hSw.2.out.cell 1; have q2 : w.cell? ⟨u2.heap.size, 2, none⟩ = some (.int .i64 c2) := hSw.2.out.cell 2; have q3 : w.cell? ⟨u2.heap.size, 3, none⟩ = some (.bool c3) := hSw.2.out.cell 3; have q4 : w.cell? ⟨u2.heap.size, 4, none⟩ = some (.bool c4) := hSw.2.out.cell 4; have q5 : w.cell? ⟨u2.heap.size, 5, none⟩ = some (.bool c5) := hSw.2.out.cell 5; have q6 : w.cell? ⟨u2.heap.size, 6, none⟩ = some (.int .u64 c6) := hSw.2.out.cell 6; have q7 : w.cell? ⟨u2.heap.size, 7, none⟩ = some (.int .i64 c7) := hSw.2.out.cell 7; have q8 : w.cell? ⟨u2.heap.size, 8, none⟩ = some (.int .u64 c8) := hSw.2.out.cell 8; have q9 : w.cell? ⟨u2.heap.size, 9, none⟩ = some (.int .i64 c9) := hSw.2.out.cell 9; have q10 : w.cell? ⟨u2.heap.size, 10, none⟩ = some (.int .i64 c10) := hSw.2.out.cell 10; have q11 : w.cell? ⟨u2.heap.size, 11, none⟩ = some (.int .i64 c11) := hSw.2.out.cell 11; have q12 : w.cell? ⟨u2.heap.size, 12, none⟩ = some (.int .i64 c12) := hSw.2.out.cell 12; go_simp; (try simp)
  try simp only [Act.put, List.setIfInBounds_toArray, List.set_cons_zero, List.set_cons_succ]
  refine wpAnyH_take (i := 4) (oi := ⟨some 29, _, _, _, _, some (2, false)⟩) (v := (.agg #[.int .i64 c0, .int .i64 c1, .int .i64 c2, .bool c3, .bool c4, .bool c5, .int .u64 c6, .int .i64 c7, .int .u64 c8, .int .i64 c9, .int .i64 c10, .int .i64 c11, .int .i64 c12])) rfl (by kernel_rfl) (by kernel_rfl) (by kernel_rfl) (fun _ _ _ h => h) (Or.inl ⟨by rfl, ?_⟩) (by assumption) ?_
  · intro w hSw; (try dsimp only at hSw); have q0 : w.cell? ⟨W0.heap.size, 0, none⟩ = some (.int .i64 c0) := hSw.1.out.cell 0; have q1 : w.cell? ⟨W0.heap.size, 1, none⟩ = some (.int .i64 c1) := hSw.1.out.cell 1; have q2 : w.cell? ⟨W0.heap.size, 2, none⟩ = some (.int .i64 c2) := hSw.1.out.cell 2; have q3 : w.cell? ⟨W0.heap.size, 3, none⟩ = some (.bool c3) := hSw.1.out.cell 3; have q4 : w.cell? ⟨W0.heap.size, 4, none⟩ = some (.bool c4) := hSw.1.out.cell 4; have q5 : w.cell? ⟨W0.heap.size, 5, none⟩ = some (.bool c5) := hSw.1.out.cell 5; have q6 : w.cell? ⟨W0.heap.size, 6, none⟩ = some (.int .u64 c6) := hSw.1.out.cell 6; have q7 : w.cell? ⟨W0.heap.size, 7, none⟩ = some (.int .i64 c7) := hSw.1.out.cell 7; have q8 : w.cell? ⟨W0.heap.size, 8, none⟩ = some (.int .u64 c8) := hSw.1.out.cell 8; have q9 : w.cell? ⟨W0.heap.size, 9, none⟩ = some (.int .i64 c9) := hSw.1.out.cell 9; have q10 : w.cell? ⟨W0.heap.size, 10, none⟩ = some (.int .i64 c10) := hSw.1.out.cell 10; have q11 : w.cell? ⟨W0.heap.size, 11, none⟩ = some (.int .i64 c11) := hSw.1.out.cell 11; have q12 : w.cell? ⟨W0.heap.size, 12, none⟩ = some (.int .i64 c12) := hSw.1.out.cell 12; go_simp; (try simp)
  try simp only [Act.put, List.setIfInBounds_toArray, List.set_cons_zero, List.set_cons_succ]
  refine wpAnyH_ready (rs := [5]) (by kernel_rfl) (by simp) ?_
  refine AllReadyH.cons (o := ⟨some 30, _, _, _, _, some (2, false)⟩) rfl (fun K hK => ?_) AllReadyH.nil
  go_simp
  go_wp2_with (go_at_call 12; refine (TDC.out _).mono ?_; rintro e v2 ⟨rfl, hb⟩)
  have BW : Hid (Below W0.heap.size W0 v2) := below_then BD.out hb
  have KW : Hid (Blk v2 W0.heap.size [.int .i64 c0, .int .i64 c1, .int .i64 c2, .bool c3, .bool c4, .bool c5, .int .u64 c6, .int .i64 c7, .int .u64 c8, .int .i64 c9, .int .i64 c10, .int .i64 c11, .int .i64 c12] 30) := KD.out.below hb
  have XW : Hid (Blk v2 u2.heap.size [.int .i64 c0, .int .i64 c1, .int .i64 c2, .bool c3, .bool c4, .bool c5, .int .u64 c6, .int .i64 c7, .int .u64 c8, .int .i64 c9, .int .i64 c10, .int .i64 c11, .int .i64 c12] 35) := XD.out.below hb
  have ZW : Hid (Blk v2 (W0.heap.size + 1) [.int .u64 x0, .int .u64 x1, .int .u64 x2, .int .u64 x3, .int .u64 x4, .int .u64 x5] 24) := ZD.out.below hb
  clear hb hHeld BD KD XD ZD
  refine hK.out _ _ ⟨KW, XW⟩ (fun hHeld => ?_)
  clear hK K
  try simp only [Act.put, List.setIfInBounds_toArray, List.set_cons_zero, List.set_cons_succ]
  refine wpAnyH_take (i := 6) (oi := ⟨some 31, _, _, _, _, some (2, false)⟩) (v := (.bool false)) rfl (by kernel_rfl) (by kernel_rfl) (by kernel_rfl) (fun _ _ _ h => h) (Or.inl ⟨by rfl, ?_⟩) (by assumption) ?_
  · intro w hSw; (try dsimp only at hSw); go_simp; (try simp)
  try simp only [Act.put, List.setIfInBounds_toArray, List.set_cons_zero, List.set_cons_succ]
  refine wpAnyH_take (i := 7) (oi := ⟨some 32, _, _, _, _, none⟩) (v := ?_) rfl (by kernel_rfl) (by kernel_rfl) (by kernel_rfl) (fun _ _ _ h => h) (Or.inl ⟨by rfl, ?_⟩) (by assumption) ?_
  rotate_left
  · intro w hSw; (try dsimp only at hSw); go_simp; (try with_reducible rfl)
  try simp only [Act.put, List.setIfInBounds_toArray, List.set_cons_zero, List.set_cons_succ]
  clear hHeld
  refine wpAnyH_done (by kernel_rfl) ?_ _
  refine NoPanic.normal ?_
  have lz : W0.heap.size + 1 < v2.heap.size := blk_lt ZW.out
  have zc0 : v2.cell? ⟨(W0.heap.size + 1), 0, none⟩ = some (.int .u64 x0) := ZW.out.cell 0
  have zc1 : v2.cell? ⟨(W0.heap.size + 1), 1, none⟩ = some (.int .u64 x1) := ZW.out.cell 1
  have zc2 : v2.cell? ⟨(W0.heap.size + 1), 2, none⟩ = some (.int .u64 x2) := ZW.out.cell 2
  have zc3 : v2.cell? ⟨(W0.heap.size + 1), 3, none⟩ = some (.int .u64 x3) := ZW.out.cell 3
  have zc4 : v2.cell? ⟨(W0.heap.size + 1), 4, none⟩ = some (.int .u64 x4) := ZW.out.cell 4
  have zc5 : v2.cell? ⟨(W0.heap.size + 1), 5, none⟩ = some (.int .u64 x5) := ZW.out.cell 5
  go_wp2_with fail
  refine (R1.out _).mono ?_
  rintro e u3 ⟨rfl, hb⟩
  have B3 : Hid (Below W0.heap.size W0 (u3.alloc (.cells #[.int .i64 0, .int .i64 0, .int .i64 0, .bool false, .bool false, .bool false, .int .u64 0, .int .i64 0, .int .u64 0, .int .i64 0, .int .i64 0, .int .i64 0, .int .i64 0] 30))) := below_new (below_then BW.out hb) _
  have Z3 : Hid (Blk (u3.alloc (.cells #[.int .i64 0, .int .i64 0, .int .i64 0, .bool false, .bool false, .bool false, .int .u64 0, .int .i64 0, .int .u64 0, .int .i64 0, .int .i64 0, .int .i64 0, .int .i64 0] 30)) (W0.heap.size + 1) [.int .u64 x0, .int .u64 x1, .int .u64 x2, .int .u64 x3, .int .u64 x4, .int .u64 x5] 24) := (ZW.out.below hb).below (Go.Joins.below_alloc1 _ _)
  clear hb
  go_wp2_with fail
  refine (AWH.out _).mono ?_
  rintro e u9 ⟨rfl, hb⟩
  have B9 : Hid (Below W0.heap.size W0 u9) := below_then B3.out hb
  clear hb
  go_wp2_with fail
  go_ret
  exact ⟨rfl, B9.out⟩
set_option maxRecDepth 8000 in
set_option maxHeartbeats 8000000 in
theorem wrA2 (c0 c1 c2 c6 c7 c8 c9 c10 c11 c12 : Int) (c3 c4 c5 : Bool) (x0 x1 x2 x3 x4 x5 : Int) (y0 y1 y2 y3 y4 y5 : Int) (d0 d1 d2 d6 d7 d8 d9 d10 d11 d12 : Int) (d3 d4 d5 : Bool) (W0 : World)
    (WC : Hid (∀ W : World, Calls Try.prog 13 #[.agg #[.int .i64 c0, .int .i64 c1, .int .i64 c2, .bool c3, .bool c4, .bool c5, .int .u64 c6, .int .i64 c7, .int .u64 c8, .int .i64 c9, .int .i64 c10, .int .i64 c11, .int .i64 c12]] W fun e w' => e = .returned (.tuple #[.agg #[.int .u64 y0, .int .u64 y1, .int .u64 y2, .int .u64 y3, .int .u64 y4, .int .u64 y5], .int .i64 0]) ∧ Below W.heap.size W w'))
    (RC : Hid (∀ W : World, Calls Try.prog 10 #[.agg #[.int .u64 y0, .int .u64 y1, .int .u64 y2, .int .u64 y3, .int .u64 y4, .int .u64 y5]] W fun e w' => e = .returned (.tuple #[.agg #[.int .i64 c0, .int .i64 c1, .int .i64 c2, .bool c3, .bool c4, .bool c5, .int .u64 c6, .int .i64 c7, .int .u64 c8, .int .i64 c9, .int .i64 c10, .int .i64 c11, .int .i64 c12], .bool true]) ∧ Below W.heap.size W w'))
    (TDC : Hid (∀ W : World, Calls Try.prog 12 #[.agg #[.int .i64 c0, .int .i64 c1, .int .i64 c2, .bool c3, .bool c4, .bool c5, .int .u64 c6, .int .i64 c7, .int .u64 c8, .int .i64 c9, .int .i64 c10, .int .i64 c11, .int .i64 c12]] W fun e w' => e = .returned (.agg #[.int .i64 c0, .int .i64 c1, .int .i64 c2, .bool c3, .bool c4, .bool c5, .int .u64 c6, .int .i64 c7, .int .u64 c8, .int .i64 c9, .int .i64 c10, .int .i64 c11, .int .i64 c12]) ∧ Below W.heap.size W w'))
    (NX : ∀ W : World, (binOp .neq 35 (.agg #[.int .i64 c0, .int .i64 c1, .int .i64 c2, .bool c3, .bool c4, .bool c5, .int .u64 c6, .int .i64 c7, .int .u64 c8, .int .i64 c9, .int .i64 c10, .int .i64 c11, .int .i64 c12]) (.agg #[.int .i64 c0, .int .i64 c1, .int .i64 c2, .bool c3, .bool c4, .bool c5, .int .u64 c6, .int .i64 c7, .int .u64 c8, .int .i64 c9, .int .i64 c10, .int .i64 c11, .int .i64 c12])).run Try.prog W = .ok (.bool false) W)
    (R1 : Hid (∀ W : World, Calls Try.prog 9 #[.agg #[.int .u64 x0, .int .u64 x1, .int .u64 x2, .int .u64 x3, .int .u64 x4, .int .u64 x5]] W fun e w' => e = .returned (.tuple #[.agg #[.int .i64 d0, .int .i64 d1, .int .i64 d2, .bool d3, .bool d4, .bool d5, .int .u64 d6, .int .i64 d7, .int .u64 d8, .int .i64 d9, .int .i64 d10, .int .i64 d11, .int .i64 d12], .int .i64 0]) ∧ Below W.heap.size W w'))
    (WD : Hid (∀ W : World, Calls Try.prog 13 #[.agg #[.int .i64 d0, .int .i64 d1, .int .i64 d2, .bool d3, .bool d4, .bool d5, .int .u64 d6, .int .i64 d7, .int .u64 d8, .int .i64 d9, .int .i64 d10, .int .i64 d11, .int .i64 d12]] W fun e w' => e = .returned (.tuple #[.agg #[.int .u64 x0, .int .u64 x1, .int .u64 x2, .int .u64 x3, .int .u64 x4, .int .u64 x5], .int .i64 0]) ∧ Below W.heap.size W w'))
    (EW : ∀ W : World, (binOp .eql 24 (.agg #[.int .u64 x0, .int .u64 x1, .int .u64 x2, .int .u64 x3, .int .u64 x4, .int .u64 x5]) (.agg #[.int .u64 x0, .int .u64 x1, .int .u64 x2, .int .u64 x3, .int .u64 x4, .int .u64 x5])).run Try.prog W = .ok (.bool true) W) : Calls Try.prog 4 #[.agg #[.int .i64 c0, .int .i64 c1, .int .i64 c2, .bool c3, .bool c4, .bool c5, .int .u64 c6, .int .i64 c7, .int .u64 c8, .int .i64 c9, .int .i64 c10, .int .i64 c11, .int .i64 c12], .agg #[.int .u64 x0, .int .u64 x1, .int .u64 x2, .int .u64 x3, .int .u64 x4, .int .u64 x5]] W0 fun e w' => e = .returned (.bool true) ∧ Below W0.heap.size W0 w' := by
  have AWH : Hid (∀ W : World, Calls Try.prog 11 #[] W fun e w' => e = .returned (.bool true) ∧ Below W.heap.size W w') := fun W => awake_any W
  have P0 : Hid (Blk ((W0.alloc (.cells #[.int .i64 c0, .int .i64 c1, .int .i64 c2, .bool c3, .bool c4, .bool c5, .int .u64 c6, .int .i64 c7, .int .u64 c8, .int .i64 c9, .int .i64 c10, .int .i64 c11, .int .i64 c12] 30)).alloc (.cells #[.int .u64 x0, .int .u64 x1, .int .u64 x2, .int .u64 x3, .int .u64 x4, .int .u64 x5] 24)) W0.heap.size [.int .i64 c0, .int .i64 c1, .int .i64 c2, .bool c3, .bool c4, .bool c5, .int .u64 c6, .int .i64 c7, .int .u64 c8, .int .i64 c9, .int .i64 c10, .int .i64 c11, .int .i64 c12] 30) := (Blk.made W0 _ _).below (Go.Joins.below_alloc1 _ _)
  have Z0 : Hid (Blk ((W0.alloc (.cells #[.int .i64 c0, .int .i64 c1, .int .i64 c2, .bool c3, .bool c4, .bool c5, .int .u64 c6, .int .i64 c7, .int .u64 c8, .int .i64 c9, .int .i64 c10, .int .i64 c11, .int .i64 c12] 30)).alloc (.cells #[.int .u64 x0, .int .u64 x1, .int .u64 x2, .int .u64 x3, .int .u64 x4, .int .u64 x5] 24)) (W0.heap.size + 1) [.int .u64 x0, .int .u64 x1, .int .u64 x2, .int .u64 x3, .int .u64 x4, .int .u64 x5] 24) := by
    have := Blk.made (W0.alloc (.cells #[.int .i64 c0, .int .i64 c1, .int .i64 c2, .bool c3, .bool c4, .bool c5, .int .u64 c6, .int .i64 c7, .int .u64 c8, .int .i64 c9, .int .i64 c10, .int .i64 c11, .int .i64 c12] 30)) [.int .u64 x0, .int .u64 x1, .int .u64 x2, .int .u64 x3, .int .u64 x4, .int .u64 x5] 24
    rw [World.size_alloc] at this; exact this
  go_enter Try.func4, Try.ntmps4
  go_wp2_with fail
  refine (WC.out _).mono ?_
  rintro e u1 ⟨rfl, hb⟩
  have B1 : Hid (Below W0.heap.size W0 (u1.alloc (.cells #[.int .u64 y0, .int .u64 y1, .int .u64 y2, .int .u64 y3, .int .u64 y4, .int .u64 y5] 24))) := below_new (below_then (Go.Joins.below_alloc2 _ _ _) hb) _
  have P1 : Hid (Blk (u1.alloc (.cells #[.int .u64 y0, .int .u64 y1, .int .u64 y2, .int .u64 y3, .int .u64 y4, .int .u64 y5] 24)) W0.heap.size [.int .i64 c0, .int .i64 c1, .int .i64 c2, .bool c3, .bool c4, .bool c5, .int .u64 c6, .int .i64 c7, .int .u64 c8, .int .i64 c9, .int .i64 c10, .int .i64 c11, .int .i64 c12] 30) := (P0.out.below hb).below (Go.Joins.below_alloc1 _ _)
  have Z1 : Hid (Blk (u1.alloc (.cells #[.int .u64 y0, .int .u64 y1, .int .u64 y2, .int .u64 y3, .int .u64 y4, .int .u64 y5] 24)) (W0.heap.size + 1) [.int .u64 x0, .int .u64 x1, .int .u64 x2, .int .u64 x3, .int .u64 x4, .int .u64 x5] 24) := (Z0.out.below hb).below (Go.Joins.below_alloc1 _ _)
  clear hb P0 Z0
  go_wp2_with fail
  refine (RC.out _).mono ?_
  rintro e u2 ⟨rfl, hb⟩
  have BD : Hid (Below W0.heap.size W0 (u2.alloc (.cells #[.int .i64 c0, .int .i64 c1, .int .i64 c2, .bool c3, .bool c4, .bool c5, .int .u64 c6, .int .i64 c7, .int .u64 c8, .int .i64 c9, .int .i64 c10, .int .i64 c11, .int .i64 c12] 35)).drew) := below_drew (below_new (below_then B1.out hb) _)
  have KD : Hid (Blk (u2.alloc (.cells #[.int .i64 c0, .int .i64 c1, .int .i64 c2, .bool c3, .bool c4, .bool c5, .int .u64 c6, .int .i64 c7, .int .u64 c8, .int .i64 c9, .int .i64 c10, .int .i64 c11, .int .i64 c12] 35)).drew W0.heap.size [.int .i64 c0, .int .i64 c1, .int .i64 c2, .bool c3, .bool c4, .bool c5, .int .u64 c6, .int .i64 c7, .int .u64 c8, .int .i64 c9, .int .i64 c10, .int .i64 c11, .int .i64 c12] 30) := (P1.out.below hb).below (below_drew (Go.Joins.below_alloc1 _ _))
  have ZD : Hid (Blk (u2.alloc (.cells #[.int .i64 c0, .int .i64 c1, .int .i64 c2, .bool c3, .bool c4, .bool c5, .int .u64 c6, .int .i64 c7, .int .u64 c8, .int .i64 c9, .int .i64 c10, .int .i64 c11, .int .i64 c12] 35)).drew (W0.heap.size + 1) [.int .u64 x0, .int .u64 x1, .int .u64 x2, .int .u64 x3, .int .u64 x4, .int .u64 x5] 24) := (Z1.out.below hb).below (below_drew (Go.Joins.below_alloc1 _ _))
  have XD : Hid (Blk (u2.alloc (.cells #[.int .i64 c0, .int .i64 c1, .int .i64 c2, .bool c3, .bool c4, .bool c5, .int .u64 c6, .int .i64 c7, .int .u64 c8, .int .i64 c9, .int .i64 c10, .int .i64 c11, .int .i64 c12] 35)).drew u2.heap.size [.int .i64 c0, .int .i64 c1, .int .i64 c2, .bool c3, .bool c4, .bool c5, .int .u64 c6, .int .i64 c7, .int .u64 c8, .int .i64 c9, .int .i64 c10, .int .i64 c11, .int .i64 c12] 35) := Blk.made u2 _ _
  clear hb P1 Z1 B1
  go_upto_region 4 with fail
  refine wp_region_noPanic ?_
  refine wp_region_held_drew (S := fun c => Hid (Blk c W0.heap.size [.int .i64 c0, .int .i64 c1, .int .i64 c2, .bool c3, .bool c4, .bool c5, .int .u64 c6, .int .i64 c7, .int .u64 c8, .int .i64 c9, .int .i64 c10, .int .i64 c11, .int .i64 c12] 30) ∧ Hid (Blk c u2.heap.size [.int .i64 c0, .int .i64 c1, .int .i64 c2, .bool c3, .bool c4, .bool c5, .int .u64 c6, .int .i64 c7, .int .u64 c8, .int .i64 c9, .int .i64 c10, .int .i64 c11, .int .i64 c12] 35)) (by kernel_rfl) ?_ (fun hHeld => ?_)
  · exact ⟨KD.out, XD.out⟩
  generalize (u2.alloc (.cells #[.int .i64 c0, .int .i64 c1, .int .i64 c2, .bool c3, .bool c4, .bool c5, .int .u64 c6, .int .i64 c7, .int .u64 c8, .int .i64 c9, .int .i64 c10, .int .i64 c11, .int .i64 c12] 35)).drew = U at BD KD ZD XD hHeld ⊢
  refine wpAnyH_take (i := 0) (oi := ⟨some 25, _, _, _, _, none⟩) (v := ?_) rfl (by kernel_rfl) (by kernel_rfl) (by kernel_rfl) (fun _ _ _ h => h) (Or.inl ⟨by rfl, ?_⟩) (by assumption) ?_
  rotate_left
  · intro w hSw; (try dsimp only at hSw); go_simp; (try with_reducible rfl)
  try simp only [Act.put, List.setIfInBounds_toArray, List.set_cons_zero, List.set_cons_succ]
  refine wpAnyH_take (i := 1) (oi := ⟨some 26, _, _, _, _, none⟩) (v := ?_) rfl (by kernel_rfl) (by kernel_rfl) (by kernel_rfl) (fun _ _ _ h => h) (Or.inl ⟨by rfl, ?_⟩) (by assumption) ?_
  rotate_left
  · intro w hSw; (try dsimp only at hSw); go_simp; (try with_reducible rfl)
  try simp only [Act.put, List.setIfInBounds_toArray, List.set_cons_zero, List.set_cons_succ]
  refine wpAnyH_take (i := 2) (oi := ⟨some 27, _, _, _, _, none⟩) (v := ?_) rfl (by kernel_rfl) (by kernel_rfl) (by kernel_rfl) (fun _ _ _ h => h) (Or.inl ⟨by rfl, ?_⟩) (by assumption) ?_
  rotate_left
  · intro w hSw; (try dsimp only at hSw); go_simp; (try with_reducible rfl)
  try simp only [Act.put, List.setIfInBounds_toArray, List.set_cons_zero, List.set_cons_succ]
  refine wpAnyH_take (i := 3) (oi := ⟨some 28, _, _, _, _, some (2, false)⟩) (v := (.agg #[.int .i64 c0, .int .i64 c1, .int .i64 c2, .bool c3, .bool c4, .bool c5, .int .u64 c6, .int .i64 c7, .int .u64 c8, .int .i64 c9, .int .i64 c10, .int .i64 c11, .int .i64 c12])) rfl (by kernel_rfl) (by kernel_rfl) (by kernel_rfl) (fun _ _ _ h => h) (Or.inl ⟨by rfl, ?_⟩) (by assumption) ?_
  · intro w hSw; (try dsimp only at hSw); have q0 : w.cell? ⟨u2.heap.size, 0, none⟩ = some (.int .i64 c0) := hSw.2.out.cell 0; have q1 : w.cell? ⟨u2.heap.size, 1, none⟩ = some (.int .i64 c1) := hSw.2.out.cell 1; have q2 : w.cell? ⟨u2.heap.size, 2, none⟩ = some (.int .i64 c2) := hSw.2.out.cell 2; have q3 : w.cell? ⟨u2.heap.size, 3, none⟩ = some (.bool c3) := hSw.2.out.cell 3; have q4 : w.cell? ⟨u2.heap.size, 4, none⟩ = some (.bool c4) := hSw.2.out.cell 4; have q5 : w.cell? ⟨u2.heap.size, 5, none⟩ = some (.bool c5) := hSw.2.out.cell 5; have q6 : w.cell? ⟨u2.heap.size, 6, none⟩ = some (.int .u64 c6) := hSw.2.out.cell 6; have q7 : w.cell? ⟨u2.heap.size, 7, none⟩ = some (.int .i64 c7) := hSw.2.out.cell 7; have q8 : w.cell? ⟨u2.heap.size, 8, none⟩ = some (.int .u64 c8) := hSw.2.out.cell 8; have q9 : w.cell? ⟨u2.heap.size, 9, none⟩ = some (.int .i64 c9) := hSw.2.out.cell 9; have q10 : w.cell? ⟨u2.heap.size, 10, none⟩ = some (.int .i64 c10) := hSw.2.out.cell 10; have q11 : w.cell? ⟨u2.heap.size, 11, none⟩ = some (.int .i64 c11) := hSw.2.out.cell 11; have q12 : w.cell? ⟨u2.heap.size, 12, none⟩ = some (.int .i64 c12) := hSw.2.out.cell 12; go_simp; (try simp)
  try simp only [Act.put, List.setIfInBounds_toArray, List.set_cons_zero, List.set_cons_succ]
  refine wpAnyH_take (i := 4) (oi := ⟨some 29, _, _, _, _, some (2, false)⟩) (v := (.agg #[.int .i64 c0, .int .i64 c1, .int .i64 c2, .bool c3, .bool c4, .bool c5, .int .u64 c6, .int .i64 c7, .int .u64 c8, .int .i64 c9, .int .i64 c10, .int .i64 c11, .int .i64 c12])) rfl (by kernel_rfl) (by kernel_rfl) (by kernel_rfl) (fun _ _ _ h => h) (Or.inl ⟨by rfl, ?_⟩) (by assumption) ?_
  · intro w hSw; (try dsimp only at hSw); have q0 : w.cell? ⟨W0.heap.size, 0, none⟩ = some (.int .i64 c0) := hSw.1.out.cell 0; have q1 : w.cell? ⟨W0.heap.size, 1, none⟩ = some (.int .i64 c1) := hSw.1.out.cell 1; have q2 : w.cell? ⟨W0.heap.size, 2, none⟩ = some (.int .i64 c2) := hSw.1.out.cell 2; have q3 : w.cell? ⟨W0.heap.size, 3, none⟩ = some (.bool c3) := hSw.1.out.cell 3; have q4 : w.cell? ⟨W0.heap.size, 4, none⟩ = some (.bool c4) := hSw.1.out.cell 4; have q5 : w.cell? ⟨W0.heap.size, 5, none⟩ = some (.bool c5) := hSw.1.out.cell 5; have q6 : w.cell? ⟨W0.heap.size, 6, none⟩ = some (.int .u64 c6) := hSw.1.out.cell 6; have q7 : w.cell? ⟨W0.heap.size, 7, none⟩ = some (.int .i64 c7) := hSw.1.out.cell 7; have q8 : w.cell? ⟨W0.heap.size, 8, none⟩ = some (.int .u64 c8) := hSw.1.out.cell 8; have q9 : w.cell? ⟨W0.heap.size, 9, none⟩ = some (.int .i64 c9) := hSw.1.out.cell 9; have q10 : w.cell? ⟨W0.heap.size, 10, none⟩ = some (.int .i64 c10) := hSw.1.out.cell 10; have q11 : w.cell? ⟨W0.heap.size, 11, none⟩ = some (.int .i64 c11) := hSw.1.out.cell 11; have q12 : w.cell? ⟨W0.heap.size, 12, none⟩ = some (.int .i64 c12) := hSw.1.out.cell 12; go_simp; (try simp)
  try simp only [Act.put, List.setIfInBounds_toArray, List.set_cons_zero, List.set_cons_succ]
  refine wpAnyH_ready (rs := [5]) (by kernel_rfl) (by simp) ?_
  refine AllReadyH.cons (o := ⟨some 30, _, _, _, _, some (2, false)⟩) rfl (fun K hK => ?_) AllReadyH.nil
  go_simp
  go_wp2_with (go_at_call 12; refine (TDC.out _).mono ?_; rintro e v2 ⟨rfl, hb⟩)
  have BW : Hid (Below W0.heap.size W0 v2) := below_then BD.out hb
  have KW : Hid (Blk v2 W0.heap.size [.int .i64 c0, .int .i64 c1, .int .i64 c2, .bool c3, .bool c4, .bool c5, .int .u64 c6, .int .i64 c7, .int .u64 c8, .int .i64 c9, .int .i64 c10, .int .i64 c11, .int .i64 c12] 30) := KD.out.below hb
  have XW : Hid (Blk v2 u2.heap.size [.int .i64 c0, .int .i64 c1, .int .i64 c2, .bool c3, .bool c4, .bool c5, .int .u64 c6, .int .i64 c7, .int .u64 c8, .int .i64 c9, .int .i64 c10, .int .i64 c11, .int .i64 c12] 35) := XD.out.below hb
  have ZW : Hid (Blk v2 (W0.heap.size + 1) [.int .u64 x0, .int .u64 x1, .int .u64 x2, .int .u64 x3, .int .u64 x4, .int .u64 x5] 24) := ZD.out.below hb
  clear hb hHeld BD KD XD ZD
  refine hK.out _ _ ⟨KW, XW⟩ (fun hHeld => ?_)
  clear hK K
  try simp only [Act.put, List.setIfInBounds_toArray, List.set_cons_zero, List.set_cons_succ]
  refine wpAnyH_take (i := 6) (oi := ⟨some 31, _, _, _, _, some (2, false)⟩) (v := (.bool false)) rfl (by kernel_rfl) (by kernel_rfl) (by kernel_rfl) (fun _ _ _ h => h) (Or.inl ⟨by rfl, ?_⟩) (by assumption) ?_
  · intro w hSw; (try dsimp only at hSw); go_simp; (try simp)
  try simp only [Act.put, List.setIfInBounds_toArray, List.set_cons_zero, List.set_cons_succ]
  refine wpAnyH_take (i := 7) (oi := ⟨some 32, _, _, _, _, none⟩) (v := ?_) rfl (by kernel_rfl) (by kernel_rfl) (by kernel_rfl) (fun _ _ _ h => h) (Or.inl ⟨by rfl, ?_⟩) (by assumption) ?_
  rotate_left
  · intro w hSw; (try dsimp only at hSw); go_simp; (try with_reducible rfl)
  try simp only [Act.put, List.setIfInBounds_toArray, List.set_cons_zero, List.set_cons_succ]
  clear hHeld
  refine wpAnyH_done (by kernel_rfl) ?_ _
  refine NoPanic.normal ?_
  have lz : W0.heap.size + 1 < v2.heap.size := blk_lt ZW.out
  have zc0 : v2.cell? ⟨(W0.heap.size + 1), 0, none⟩ = some (.int .u64 x0) := ZW.out.cell 0
  have zc1 : v2.cell? ⟨(W0.heap.size + 1), 1, none⟩ = some (.int .u64 x1) := ZW.out.cell 1
  have zc2 : v2.cell? ⟨(W0.heap.size + 1), 2, none⟩ = some (.int .u64 x2) := ZW.out.cell 2
  have zc3 : v2.cell? ⟨(W0.heap.size + 1), 3, none⟩ = some (.int .u64 x3) := ZW.out.cell 3
  have zc4 : v2.cell? ⟨(W0.heap.size + 1), 4, none⟩ = some (.int .u64 x4) := ZW.out.cell 4
  have zc5 : v2.cell? ⟨(W0.heap.size + 1), 5, none⟩ = some (.int .u64 x5) := ZW.out.cell 5
  go_wp2_with fail
  refine (R1.out _).mono ?_
  rintro e u3 ⟨rfl, hb⟩
  have B3 : Hid (Below W0.heap.size W0 (u3.alloc (.cells #[.int .i64 d0, .int .i64 d1, .int .i64 d2, .bool d3, .bool d4, .bool d5, .int .u64 d6, .int .i64 d7, .int .u64 d8, .int .i64 d9, .int .i64 d10, .int .i64 d11, .int .i64 d12] 30))) := below_new (below_then BW.out hb) _
  have Z3 : Hid (Blk (u3.alloc (.cells #[.int .i64 d0, .int .i64 d1, .int .i64 d2, .bool d3, .bool d4, .bool d5, .int .u64 d6, .int .i64 d7, .int .u64 d8, .int .i64 d9, .int .i64 d10, .int .i64 d11, .int .i64 d12] 30)) (W0.heap.size + 1) [.int .u64 x0, .int .u64 x1, .int .u64 x2, .int .u64 x3, .int .u64 x4, .int .u64 x5] 24) := (ZW.out.below hb).below (Go.Joins.below_alloc1 _ _)
  clear hb
  go_wp2_with fail
  refine (WD.out _).mono ?_
  rintro e u4 ⟨rfl, hb⟩
  have B4 : Hid (Below W0.heap.size W0 (u4.alloc (.cells #[.int .u64 x0, .int .u64 x1, .int .u64 x2, .int .u64 x3, .int .u64 x4, .int .u64 x5] 24))) := below_new (below_then B3.out hb) _
  have Z4 : Hid (Blk (u4.alloc (.cells #[.int .u64 x0, .int .u64 x1, .int .u64 x2, .int .u64 x3, .int .u64 x4, .int .u64 x5] 24)) (W0.heap.size + 1) [.int .u64 x0, .int .u64 x1, .int .u64 x2, .int .u64 x3, .int .u64 x4, .int .u64 x5] 24) := (Z3.out.below hb).below (Go.Joins.below_alloc1 _ _)
  have Y4 : Hid (Blk (u4.alloc (.cells #[.int .u64 x0, .int .u64 x1, .int .u64 x2, .int .u64 x3, .int .u64 x4, .int .u64 x5] 24)) u4.heap.size [.int .u64 x0, .int .u64 x1, .int .u64 x2, .int .u64 x3, .int .u64 x4, .int .u64 x5] 24) := Blk.made u4 _ _
  clear hb B3 Z3
  go_wp2_with fail
  refine (AWH.out _).mono ?_
  rintro e u9 ⟨rfl, hb⟩
  have B9 : Hid (Below W0.heap.size W0 u9) := below_then B4.out hb
  have Z9 : Hid (Blk u9 (W0.heap.size + 1) [.int .u64 x0, .int .u64 x1, .int .u64 x2, .int .u64 x3, .int .u64 x4, .int .u64 x5] 24) := Z4.out.below hb
  have Y9 : Hid (Blk u9 u4.heap.size [.int .u64 x0, .int .u64 x1, .int .u64 x2, .int .u64 x3, .int .u64 x4, .int .u64 x5] 24) := Y4.out.below hb
  clear hb B4 Z4 Y4
  have l9 : W0.heap.size + 1 < u9.heap.size := blk_lt Z9.out
  have l8 : u4.heap.size < u9.heap.size := blk_lt Y9.out
  have zzc0 : u9.cell? ⟨(W0.heap.size + 1), 0, none⟩ = some (.int .u64 x0) := Z9.out.cell 0
  have zzc1 : u9.cell? ⟨(W0.heap.size + 1), 1, none⟩ = some (.int .u64 x1) := Z9.out.cell 1
  have zzc2 : u9.cell? ⟨(W0.heap.size + 1), 2, none⟩ = some (.int .u64 x2) := Z9.out.cell 2
  have zzc3 : u9.cell? ⟨(W0.heap.size + 1), 3, none⟩ = some (.int .u64 x3) := Z9.out.cell 3
  have zzc4 : u9.cell? ⟨(W0.heap.size + 1), 4, none⟩ = some (.int .u64 x4) := Z9.out.cell 4
  have zzc5 : u9.cell? ⟨(W0.heap.size + 1), 5, none⟩ = some (.int .u64 x5) := Z9.out.cell 5
  have yyc0 : u9.cell? ⟨u4.heap.size, 0, none⟩ = some (.int .u64 x0) := Y9.out.cell 0
  have yyc1 : u9.cell? ⟨u4.heap.size, 1, none⟩ = some (.int .u64 x1) := Y9.out.cell 1
  have yyc2 : u9.cell? ⟨u4.heap.size, 2, none⟩ = some (.int .u64 x2) := Y9.out.cell 2
  have yyc3 : u9.cell? ⟨u4.heap.size, 3, none⟩ = some (.int .u64 x3) := Y9.out.cell 3
  have yyc4 : u9.cell? ⟨u4.heap.size, 4, none⟩ = some (.int .u64 x4) := Y9.out.cell 4
  have yyc5 : u9.cell? ⟨u4.heap.size, 5, none⟩ = some (.int .u64 x5) := Y9.out.cell 5
  go_wp2_with fail
  go_ret
  exact ⟨rfl, B9.out⟩
end Go.Proofs.Ytccbacjiiffheaa
