/- For any words: they are the call that the document says they are, or none, and Read tells so; no condition. -/
import Derived.Test.YtccbacjiiffheaaRows
import Derived.ProofKit
import Derived.OpenShut
import Derived.Carry
import Derived.Test.YtccbacjiiffheaaCV
import Derived.Deep.DeepCutAuto
namespace Go.Proofs.Ytccbacjiiffheaa.callReads
open Go.ChangeShapes Go.WideShapes Go.ChangeAt Go.RowKit Go.Maps
set_option linter.unusedSimpArgs false
set_option linter.unusedVariables false
theorem wanted_mp2 {c : Prop} [Decidable c] {a b : Prop} (h : c) (ha : a) : if c then a else b := by rw [if_pos h]; exact ha

set_option maxRecDepth 8000 in
set_option maxHeartbeats 8000000 in
theorem walk (D0 : Wd) (w0 : D0.wf) (w : World)  :
    Calls Try.prog 3 #[D0.val] w fun e w' => e = .returned (.bool true) ∧ Below w.heap.size w w' := by
  have AWH : Hid (∀ W : World, Calls Try.prog 11 #[] W fun e w' => e = .returned (.bool true) ∧ Below W.heap.size W w') := fun W => awake_any W
  obtain ⟨x0, x1, x2, x3, x4, x5⟩ := D0
  have Z0 : Hid (Blk (w.alloc (.cells #[.int .u64 x0, .int .u64 x1, .int .u64 x2, .int .u64 x3, .int .u64 x4, .int .u64 x5] 24)) w.heap.size [.int .u64 x0, .int .u64 x1, .int .u64 x2, .int .u64 x3, .int .u64 x4, .int .u64 x5] 24) := Blk.made w _ _
  by_cases hs : ∃ c, Says ⟨x0, x1, x2, x3, x4, x5⟩ c
  · obtain ⟨c, hs⟩ := hs
    obtain ⟨c0, c1, c2, c3, c4, c5, c6, c7, c8, c9, c10, c11, c12⟩ := c
    have R1 : Hid (∀ W : World, Calls Try.prog 9 #[.agg #[.int .u64 x0, .int .u64 x1, .int .u64 x2, .int .u64 x3, .int .u64 x4, .int .u64 x5]] W fun e w' => e = .returned (.tuple #[.agg #[.int .i64 c0, .int .i64 c1, .int .i64 c2, .bool c3, .bool c4, .bool c5, .int .u64 c6, .int .i64 c7, .int .u64 c8, .int .i64 c9, .int .i64 c10, .int .i64 c11, .int .i64 c12], .int .i64 0]) ∧ Below W.heap.size W w') := fun W => read_yes _ w0 _ hs W
    have R2 : Hid (∀ W : World, Calls Try.prog 10 #[.agg #[.int .u64 x0, .int .u64 x1, .int .u64 x2, .int .u64 x3, .int .u64 x4, .int .u64 x5]] W fun e w' => e = .returned (.tuple #[.agg #[.int .i64 c0, .int .i64 c1, .int .i64 c2, .bool c3, .bool c4, .bool c5, .int .u64 c6, .int .i64 c7, .int .u64 c8, .int .i64 c9, .int .i64 c10, .int .i64 c11, .int .i64 c12], .bool true]) ∧ Below W.heap.size W w') := fun W => ref_yes _ w0 _ hs W
    have TDC : Hid (∀ W : World, Calls Try.prog 12 #[.agg #[.int .i64 c0, .int .i64 c1, .int .i64 c2, .bool c3, .bool c4, .bool c5, .int .u64 c6, .int .i64 c7, .int .u64 c8, .int .i64 c9, .int .i64 c10, .int .i64 c11, .int .i64 c12]] W fun e w' => e = .returned (.agg #[.int .i64 c0, .int .i64 c1, .int .i64 c2, .bool c3, .bool c4, .bool c5, .int .u64 c6, .int .i64 c7, .int .u64 c8, .int .i64 c9, .int .i64 c10, .int .i64 c11, .int .i64 c12]) ∧ Below W.heap.size W w') := fun W => told_any ⟨c0, c1, c2, c3, c4, c5, c6, c7, c8, c9, c10, c11, c12⟩ W
    have EQX : ∀ W : World, (binOp .eql 35 (.agg #[.int .i64 c0, .int .i64 c1, .int .i64 c2, .bool c3, .bool c4, .bool c5, .int .u64 c6, .int .i64 c7, .int .u64 c8, .int .i64 c9, .int .i64 c10, .int .i64 c11, .int .i64 c12]) (.agg #[.int .i64 c0, .int .i64 c1, .int .i64 c2, .bool c3, .bool c4, .bool c5, .int .u64 c6, .int .i64 c7, .int .u64 c8, .int .i64 c9, .int .i64 c10, .int .i64 c11, .int .i64 c12])).run Try.prog W = .ok (.bool true) W := fun W => by
        have := eqX ⟨c0, c1, c2, c3, c4, c5, c6, c7, c8, c9, c10, c11, c12⟩ ⟨c0, c1, c2, c3, c4, c5, c6, c7, c8, c9, c10, c11, c12⟩ W
        rw [decide_eq_true rfl] at this
        exact this
    clear hs w0
    go_enter Try.func3, Try.ntmps3
    go_wp2_with fail
    refine (R1.out _).mono ?_
    rintro e u1 ⟨rfl, hb⟩
    have B1 : Hid (Below w.heap.size w u1) := below_then (Go.Joins.below_alloc1 _ _) hb
    have Z1 : Hid (Blk u1 w.heap.size [.int .u64 x0, .int .u64 x1, .int .u64 x2, .int .u64 x3, .int .u64 x4, .int .u64 x5] 24) := Z0.out.below hb
    have K1 : Hid (Blk (u1.alloc (.cells #[.int .i64 c0, .int .i64 c1, .int .i64 c2, .bool c3, .bool c4, .bool c5, .int .u64 c6, .int .i64 c7, .int .u64 c8, .int .i64 c9, .int .i64 c10, .int .i64 c11, .int .i64 c12] 30)) u1.heap.size [.int .i64 c0, .int .i64 c1, .int .i64 c2, .bool c3, .bool c4, .bool c5, .int .u64 c6, .int .i64 c7, .int .u64 c8, .int .i64 c9, .int .i64 c10, .int .i64 c11, .int .i64 c12] 30) := Blk.made u1 _ _
    clear hb
    have yc0 : u1.cell? ⟨w.heap.size, 0, none⟩ = some (.int .u64 x0) := Z1.out.cell 0
    have yc1 : u1.cell? ⟨w.heap.size, 1, none⟩ = some (.int .u64 x1) := Z1.out.cell 1
    have yc2 : u1.cell? ⟨w.heap.size, 2, none⟩ = some (.int .u64 x2) := Z1.out.cell 2
    have yc3 : u1.cell? ⟨w.heap.size, 3, none⟩ = some (.int .u64 x3) := Z1.out.cell 3
    have yc4 : u1.cell? ⟨w.heap.size, 4, none⟩ = some (.int .u64 x4) := Z1.out.cell 4
    have yc5 : u1.cell? ⟨w.heap.size, 5, none⟩ = some (.int .u64 x5) := Z1.out.cell 5
    have lt1 : w.heap.size < u1.heap.size := blk_lt Z1.out
    go_wp2_with fail
    refine (R2.out _).mono ?_
    rintro e u2 ⟨rfl, hb⟩
    have B2 : Hid (Below w.heap.size w (u2.alloc (.cells #[.int .i64 c0, .int .i64 c1, .int .i64 c2, .bool c3, .bool c4, .bool c5, .int .u64 c6, .int .i64 c7, .int .u64 c8, .int .i64 c9, .int .i64 c10, .int .i64 c11, .int .i64 c12] 35))) := below_new (below_then (below_new B1.out _) hb) _
    have K2 : Hid (Blk (u2.alloc (.cells #[.int .i64 c0, .int .i64 c1, .int .i64 c2, .bool c3, .bool c4, .bool c5, .int .u64 c6, .int .i64 c7, .int .u64 c8, .int .i64 c9, .int .i64 c10, .int .i64 c11, .int .i64 c12] 35)) u1.heap.size [.int .i64 c0, .int .i64 c1, .int .i64 c2, .bool c3, .bool c4, .bool c5, .int .u64 c6, .int .i64 c7, .int .u64 c8, .int .i64 c9, .int .i64 c10, .int .i64 c11, .int .i64 c12] 30) := (K1.out.below hb).below (Go.Joins.below_alloc1 _ _)
    have X2 : Hid (Blk (u2.alloc (.cells #[.int .i64 c0, .int .i64 c1, .int .i64 c2, .bool c3, .bool c4, .bool c5, .int .u64 c6, .int .i64 c7, .int .u64 c8, .int .i64 c9, .int .i64 c10, .int .i64 c11, .int .i64 c12] 35)) u2.heap.size [.int .i64 c0, .int .i64 c1, .int .i64 c2, .bool c3, .bool c4, .bool c5, .int .u64 c6, .int .i64 c7, .int .u64 c8, .int .i64 c9, .int .i64 c10, .int .i64 c11, .int .i64 c12] 35) := Blk.made u2 _ _
    clear hb K1
    go_upto_region 3 with fail
    have BD : Hid (Below w.heap.size w (u2.alloc (.cells #[.int .i64 c0, .int .i64 c1, .int .i64 c2, .bool c3, .bool c4, .bool c5, .int .u64 c6, .int .i64 c7, .int .u64 c8, .int .i64 c9, .int .i64 c10, .int .i64 c11, .int .i64 c12] 35)).drew) := below_drew B2.out
    have KD : Hid (Blk (u2.alloc (.cells #[.int .i64 c0, .int .i64 c1, .int .i64 c2, .bool c3, .bool c4, .bool c5, .int .u64 c6, .int .i64 c7, .int .u64 c8, .int .i64 c9, .int .i64 c10, .int .i64 c11, .int .i64 c12] 35)).drew u1.heap.size [.int .i64 c0, .int .i64 c1, .int .i64 c2, .bool c3, .bool c4, .bool c5, .int .u64 c6, .int .i64 c7, .int .u64 c8, .int .i64 c9, .int .i64 c10, .int .i64 c11, .int .i64 c12] 30) := K2.out
    have XD : Hid (Blk (u2.alloc (.cells #[.int .i64 c0, .int .i64 c1, .int .i64 c2, .bool c3, .bool c4, .bool c5, .int .u64 c6, .int .i64 c7, .int .u64 c8, .int .i64 c9, .int .i64 c10, .int .i64 c11, .int .i64 c12] 35)).drew u2.heap.size [.int .i64 c0, .int .i64 c1, .int .i64 c2, .bool c3, .bool c4, .bool c5, .int .u64 c6, .int .i64 c7, .int .u64 c8, .int .i64 c9, .int .i64 c10, .int .i64 c11, .int .i64 c12] 35) := X2.out
    refine wp_region_noPanic ?_
    refine wp_region_held_drew (S := fun c => Hid (Blk c u1.heap.size [.int .i64 c0, .int .i64 c1, .int .i64 c2, .bool c3, .bool c4, .bool c5, .int .u64 c6, .int .i64 c7, .int .u64 c8, .int .i64 c9, .int .i64 c10, .int .i64 c11, .int .i64 c12] 30) ∧ Hid (Blk c u2.heap.size [.int .i64 c0, .int .i64 c1, .int .i64 c2, .bool c3, .bool c4, .bool c5, .int .u64 c6, .int .i64 c7, .int .u64 c8, .int .i64 c9, .int .i64 c10, .int .i64 c11, .int .i64 c12] 35)) (by kernel_rfl) ?_ (fun hHeld => ?_)
    · exact ⟨K2, X2⟩
    generalize (u2.alloc (.cells #[.int .i64 c0, .int .i64 c1, .int .i64 c2, .bool c3, .bool c4, .bool c5, .int .u64 c6, .int .i64 c7, .int .u64 c8, .int .i64 c9, .int .i64 c10, .int .i64 c11, .int .i64 c12] 35)).drew = U at BD KD XD hHeld ⊢
    clear B2 K2 X2
    refine wpAnyH_ready (rs := [0]) (by kernel_rfl) (by simp) ?_
    refine AllReadyH.cons (o := ⟨some 17, _, _, _, _, none⟩) rfl (fun K hK => ?_) AllReadyH.nil
    go_simp
    go_wp2_with (go_at_call 11; refine (AWH.out _).mono ?_; rintro e v1 ⟨rfl, hb⟩)
    have BV : Hid (Below w.heap.size w v1) := below_then BD.out hb
    have KV : Hid (Blk v1 u1.heap.size [.int .i64 c0, .int .i64 c1, .int .i64 c2, .bool c3, .bool c4, .bool c5, .int .u64 c6, .int .i64 c7, .int .u64 c8, .int .i64 c9, .int .i64 c10, .int .i64 c11, .int .i64 c12] 30) := KD.out.below hb
    have XX : Hid (Blk v1 u2.heap.size [.int .i64 c0, .int .i64 c1, .int .i64 c2, .bool c3, .bool c4, .bool c5, .int .u64 c6, .int .i64 c7, .int .u64 c8, .int .i64 c9, .int .i64 c10, .int .i64 c11, .int .i64 c12] 35) := XD.out.below hb
    clear hb hHeld BD KD XD
    refine hK.out _ _ ⟨KV, XX⟩ (fun hHeld => ?_)
    clear hK K
    try simp only [Act.put, List.setIfInBounds_toArray, List.set_cons_zero, List.set_cons_succ]
    refine wpAnyH_take (i := 1) (oi := ⟨some 18, _, _, _, _, none⟩) (v := ?_) rfl (by kernel_rfl) (by kernel_rfl) (by kernel_rfl) (fun _ _ _ h => h) (Or.inl ⟨by rfl, ?_⟩) (by assumption) ?_
    rotate_left
    · intro w hSw; (try dsimp only at hSw); go_simp; (try with_reducible rfl)
    try simp only [Act.put, List.setIfInBounds_toArray, List.set_cons_zero, List.set_cons_succ]
    refine wpAnyH_take (i := 2) (oi := ⟨some 19, _, _, _, _, some (1, true)⟩) (v := (.agg #[.int .i64 c0, .int .i64 c1, .int .i64 c2, .bool c3, .bool c4, .bool c5, .int .u64 c6, .int .i64 c7, .int .u64 c8, .int .i64 c9, .int .i64 c10, .int .i64 c11, .int .i64 c12])) rfl (by kernel_rfl) (by kernel_rfl) (by kernel_rfl) (fun _ _ _ h => h) (Or.inl ⟨by rfl, ?_⟩) (by assumption) ?_
    · intro w hSw; (try dsimp only at hSw); have q0 : w.cell? ⟨u1.heap.size, 0, none⟩ = some (.int .i64 c0) := hSw.1.out.cell 0; have q1 : w.cell? ⟨u1.heap.size, 1, none⟩ = some (.int .i64 c1) := hSw.1.out.cell 1; have q2 : w.cell? ⟨u1.heap.size, 2, none⟩ = some (.int .i64 c2) := hSw.1.out.cell 2; have q3 : w.cell? ⟨u1.heap.size, 3, none⟩ = some (.bool c3) := hSw.1.out.cell 3; have q4 : w.cell? ⟨u1.heap.size, 4, none⟩ = some (.bool c4) := hSw.1.out.cell 4; have q5 : w.cell? ⟨u1.heap.size, 5, none⟩ = some (.bool c5) := hSw.1.out.cell 5; have q6 : w.cell? ⟨u1.heap.size, 6, none⟩ = some (.int .u64 c6) := hSw.1.out.cell 6; have q7 : w.cell? ⟨u1.heap.size, 7, none⟩ = some (.int .i64 c7) := hSw.1.out.cell 7; have q8 : w.cell? ⟨u1.heap.size, 8, none⟩ = some (.int .u64 c8) := hSw.1.out.cell 8; have q9 : w.cell? ⟨u1.heap.size, 9, none⟩ = some (.int .i64 c9) := hSw.1.out.cell 9; have q10 : w.cell? ⟨u1.heap.size, 10, none⟩ = some (.int .i64 c10) := hSw.1.out.cell 10; have q11 : w.cell? ⟨u1.heap.size, 11, none⟩ = some (.int .i64 c11) := hSw.1.out.cell 11; have q12 : w.cell? ⟨u1.heap.size, 12, none⟩ = some (.int .i64 c12) := hSw.1.out.cell 12; go_simp; (try simp)
    try simp only [Act.put, List.setIfInBounds_toArray, List.set_cons_zero, List.set_cons_succ]
    refine wpAnyH_take (i := 4) (oi := ⟨some 21, _, _, _, _, some (1, true)⟩) (v := (.agg #[.int .i64 c0, .int .i64 c1, .int .i64 c2, .bool c3, .bool c4, .bool c5, .int .u64 c6, .int .i64 c7, .int .u64 c8, .int .i64 c9, .int .i64 c10, .int .i64 c11, .int .i64 c12])) rfl (by kernel_rfl) (by kernel_rfl) (by kernel_rfl) (fun _ _ _ h => h) (Or.inl ⟨by rfl, ?_⟩) (by assumption) ?_
    · intro w hSw; (try dsimp only at hSw); have q0 : w.cell? ⟨u2.heap.size, 0, none⟩ = some (.int .i64 c0) := hSw.2.out.cell 0; have q1 : w.cell? ⟨u2.heap.size, 1, none⟩ = some (.int .i64 c1) := hSw.2.out.cell 1; have q2 : w.cell? ⟨u2.heap.size, 2, none⟩ = some (.int .i64 c2) := hSw.2.out.cell 2; have q3 : w.cell? ⟨u2.heap.size, 3, none⟩ = some (.bool c3) := hSw.2.out.cell 3; have q4 : w.cell? ⟨u2.heap.size, 4, none⟩ = some (.bool c4) := hSw.2.out.cell 4; have q5 : w.cell? ⟨u2.heap.size, 5, none⟩ = some (.bool c5) := hSw.2.out.cell 5; have q6 : w.cell? ⟨u2.heap.size, 6, none⟩ = some (.int .u64 c6) := hSw.2.out.cell 6; have q7 : w.cell? ⟨u2.heap.size, 7, none⟩ = some (.int .i64 c7) := hSw.2.out.cell 7; have q8 : w.cell? ⟨u2.heap.size, 8, none⟩ = some (.int .u64 c8) := hSw.2.out.cell 8; have q9 : w.cell? ⟨u2.heap.size, 9, none⟩ = some (.int .i64 c9) := hSw.2.out.cell 9; have q10 : w.cell? ⟨u2.heap.size, 10, none⟩ = some (.int .i64 c10) := hSw.2.out.cell 10; have q11 : w.cell? ⟨u2.heap.size, 11, none⟩ = some (.int .i64 c11) := hSw.2.out.cell 11; have q12 : w.cell? ⟨u2.heap.size, 12, none⟩ = some (.int .i64 c12) := hSw.2.out.cell 12; go_simp; (try simp)
    try simp only [Act.put, List.setIfInBounds_toArray, List.set_cons_zero, List.set_cons_succ]
    refine wpAnyH_ready (rs := [3]) (by kernel_rfl) (by simp) ?_
    refine AllReadyH.cons (o := ⟨some 20, _, _, _, _, some (1, true)⟩) rfl (fun K hK => ?_) AllReadyH.nil
    go_simp
    go_wp2_with (go_at_call 12; refine (TDC.out _).mono ?_; rintro e v2 ⟨rfl, hb⟩)
    have BW : Hid (Below w.heap.size w v2) := below_then BV.out hb
    have KW : Hid (Blk v2 u1.heap.size [.int .i64 c0, .int .i64 c1, .int .i64 c2, .bool c3, .bool c4, .bool c5, .int .u64 c6, .int .i64 c7, .int .u64 c8, .int .i64 c9, .int .i64 c10, .int .i64 c11, .int .i64 c12] 30) := KV.out.below hb
    have XW : Hid (Blk v2 u2.heap.size [.int .i64 c0, .int .i64 c1, .int .i64 c2, .bool c3, .bool c4, .bool c5, .int .u64 c6, .int .i64 c7, .int .u64 c8, .int .i64 c9, .int .i64 c10, .int .i64 c11, .int .i64 c12] 35) := XX.out.below hb
    clear hb hHeld BV KV XX
    refine hK.out _ _ ⟨KW, XW⟩ (fun hHeld => ?_)
    clear hK K
    try simp only [Act.put, List.setIfInBounds_toArray, List.set_cons_zero, List.set_cons_succ]
    refine wpAnyH_take (i := 5) (oi := ⟨some 22, _, _, _, _, some (1, true)⟩) (v := (.bool true)) rfl (by kernel_rfl) (by kernel_rfl) (by kernel_rfl) (fun _ _ _ h => h) (Or.inl ⟨by rfl, ?_⟩) (by assumption) ?_
    · intro w hSw; (try dsimp only at hSw); go_simp; (try simp)
    try simp only [Act.put, List.setIfInBounds_toArray, List.set_cons_zero, List.set_cons_succ]
    refine wpAnyH_take (i := 6) (oi := ⟨some 23, _, _, _, _, none⟩) (v := ?_) rfl (by kernel_rfl) (by kernel_rfl) (by kernel_rfl) (fun _ _ _ h => h) (Or.inl ⟨by rfl, ?_⟩) (by assumption) ?_
    rotate_left
    · intro w hSw; (try dsimp only at hSw); go_simp; (try with_reducible rfl)
    try simp only [Act.put, List.setIfInBounds_toArray, List.set_cons_zero, List.set_cons_succ]
    refine wpAnyH_take (i := 7) (oi := ⟨some 24, _, _, _, _, none⟩) (v := ?_) rfl (by kernel_rfl) (by kernel_rfl) (by kernel_rfl) (fun _ _ _ h => h) (Or.inl ⟨by rfl, ?_⟩) (by assumption) ?_
    rotate_left
    · intro w hSw; (try dsimp only at hSw); go_simp; (try with_reducible rfl)
    try simp only [Act.put, List.setIfInBounds_toArray, List.set_cons_zero, List.set_cons_succ]
    refine wpAnyH_take (i := 8) (oi := ⟨some 25, _, _, _, _, some (7, true)⟩) (v := ?_) rfl (by kernel_rfl) (by kernel_rfl) (by kernel_rfl) (fun _ _ _ h => h) (Or.inl ⟨by rfl, ?_⟩) (by assumption) ?_
    rotate_left
    · intro w hSw; (try dsimp only at hSw); go_simp; (try with_reducible rfl)
    try simp only [Act.put, List.setIfInBounds_toArray, List.set_cons_zero, List.set_cons_succ]
    refine wpAnyH_take (i := 9) (oi := ⟨some 26, _, _, _, _, some (7, true)⟩) (v := ?_) rfl (by kernel_rfl) (by kernel_rfl) (by kernel_rfl) (fun _ _ _ h => h) (Or.inl ⟨by rfl, ?_⟩) (by assumption) ?_
    rotate_left
    · intro w hSw; (try dsimp only at hSw); go_simp; (try with_reducible rfl)
    try simp only [Act.put, List.setIfInBounds_toArray, List.set_cons_zero, List.set_cons_succ]
    refine wpAnyH_take (i := 10) (oi := ⟨some 27, _, _, _, _, some (7, true)⟩) (v := ?_) rfl (by kernel_rfl) (by kernel_rfl) (by kernel_rfl) (fun _ _ _ h => h) (Or.inl ⟨by rfl, ?_⟩) (by assumption) ?_
    rotate_left
    · intro w hSw; (try dsimp only at hSw); go_simp; (try with_reducible rfl)
    try simp only [Act.put, List.setIfInBounds_toArray, List.set_cons_zero, List.set_cons_succ]
    refine wpAnyH_take (i := 11) (oi := ⟨some 28, _, _, _, _, some (7, true)⟩) (v := ?_) rfl (by kernel_rfl) (by kernel_rfl) (by kernel_rfl) (fun _ _ _ h => h) (Or.inl ⟨by rfl, ?_⟩) (by assumption) ?_
    rotate_left
    · intro w hSw; (try dsimp only at hSw); go_simp; (try with_reducible rfl)
    try simp only [Act.put, List.setIfInBounds_toArray, List.set_cons_zero, List.set_cons_succ]
    refine wpAnyH_take (i := 12) (oi := ⟨some 29, _, _, _, _, none⟩) (v := ?_) rfl (by kernel_rfl) (by kernel_rfl) (by kernel_rfl) (fun _ _ _ h => h) (Or.inl ⟨by rfl, ?_⟩) (by assumption) ?_
    rotate_left
    · intro w hSw; (try dsimp only at hSw); go_simp; (try with_reducible rfl)
    try simp only [Act.put, List.setIfInBounds_toArray, List.set_cons_zero, List.set_cons_succ]
    refine wpAnyH_take (i := 13) (oi := ⟨some 30, _, _, _, _, none⟩) (v := ?_) rfl (by kernel_rfl) (by kernel_rfl) (by kernel_rfl) (fun _ _ _ h => h) (Or.inl ⟨by rfl, ?_⟩) (by assumption) ?_
    rotate_left
    · intro w hSw; (try dsimp only at hSw); go_simp; (try with_reducible rfl)
    try simp only [Act.put, List.setIfInBounds_toArray, List.set_cons_zero, List.set_cons_succ]
    refine wpAnyH_take (i := 14) (oi := ⟨some 31, _, _, _, _, some (13, true)⟩) (v := ?_) rfl (by kernel_rfl) (by kernel_rfl) (by kernel_rfl) (fun _ _ _ h => h) (Or.inl ⟨by rfl, ?_⟩) (by assumption) ?_
    rotate_left
    · intro w hSw; (try dsimp only at hSw); go_simp; (try with_reducible rfl)
    try simp only [Act.put, List.setIfInBounds_toArray, List.set_cons_zero, List.set_cons_succ]
    refine wpAnyH_take (i := 15) (oi := ⟨some 32, _, _, _, _, some (13, true)⟩) (v := ?_) rfl (by kernel_rfl) (by kernel_rfl) (by kernel_rfl) (fun _ _ _ h => h) (Or.inl ⟨by rfl, ?_⟩) (by assumption) ?_
    rotate_left
    · intro w hSw; (try dsimp only at hSw); go_simp; (try with_reducible rfl)
    try simp only [Act.put, List.setIfInBounds_toArray, List.set_cons_zero, List.set_cons_succ]
    refine wpAnyH_take (i := 16) (oi := ⟨some 33, _, _, _, _, some (15, false)⟩) (v := undef) rfl (by kernel_rfl) (by kernel_rfl) (by kernel_rfl) (fun _ _ _ h => h) (Or.inr ⟨by rfl, rfl⟩) (by assumption) ?_
    try simp only [Act.put, List.setIfInBounds_toArray, List.set_cons_zero, List.set_cons_succ]
    refine wpAnyH_take (i := 17) (oi := ⟨some 34, _, _, _, _, some (15, false)⟩) (v := undef) rfl (by kernel_rfl) (by kernel_rfl) (by kernel_rfl) (fun _ _ _ h => h) (Or.inr ⟨by rfl, rfl⟩) (by assumption) ?_
    try simp only [Act.put, List.setIfInBounds_toArray, List.set_cons_zero, List.set_cons_succ]
    refine wpAnyH_take (i := 18) (oi := ⟨some 35, _, _, _, _, some (13, true)⟩) (v := ?_) rfl (by kernel_rfl) (by kernel_rfl) (by kernel_rfl) (fun _ _ _ h => h) (Or.inl ⟨by rfl, ?_⟩) (by assumption) ?_
    rotate_left
    · intro w hSw; (try dsimp only at hSw); go_simp; (try with_reducible rfl)
    try simp only [Act.put, List.setIfInBounds_toArray, List.set_cons_zero, List.set_cons_succ]
    refine wpAnyH_take (i := 19) (oi := ⟨some 36, _, _, _, _, none⟩) (v := ?_) rfl (by kernel_rfl) (by kernel_rfl) (by kernel_rfl) (fun _ _ _ h => h) (Or.inl ⟨by rfl, ?_⟩) (by assumption) ?_
    rotate_left
    · intro w hSw; (try dsimp only at hSw); go_simp; (try with_reducible rfl)
    try simp only [Act.put, List.setIfInBounds_toArray, List.set_cons_zero, List.set_cons_succ]
    refine wpAnyH_take (i := 20) (oi := ⟨some 2, _, _, _, _, none⟩) (v := ?_) rfl (by kernel_rfl) (by kernel_rfl) (by kernel_rfl) (fun _ _ _ h => h) (Or.inl ⟨by rfl, ?_⟩) (by assumption) ?_
    rotate_left
    · intro w hSw; (try dsimp only at hSw); go_simp; (try with_reducible rfl)
    try simp only [Act.put, List.setIfInBounds_toArray, List.set_cons_zero, List.set_cons_succ]
    clear hHeld
    refine wpAnyH_done (by kernel_rfl) ?_ _
    refine NoPanic.normal ?_
    go_wp2_with fail
    go_ret
    exact ⟨rfl, BW.out⟩
  · have R1 : Hid (∀ W : World, Calls Try.prog 9 #[.agg #[.int .u64 x0, .int .u64 x1, .int .u64 x2, .int .u64 x3, .int .u64 x4, .int .u64 x5]] W fun e w' => e = .returned (.tuple #[.agg #[.int .i64 0, .int .i64 0, .int .i64 0, .bool false, .bool false, .bool false, .int .u64 0, .int .i64 0, .int .u64 0, .int .i64 0, .int .i64 0, .int .i64 0, .int .i64 0], .int .i64 13]) ∧ Below W.heap.size W w') := fun W => read_no _ w0 hs W
    have R2 : Hid (∀ W : World, Calls Try.prog 10 #[.agg #[.int .u64 x0, .int .u64 x1, .int .u64 x2, .int .u64 x3, .int .u64 x4, .int .u64 x5]] W fun e w' => e = .returned (.tuple #[.agg #[.int .i64 0, .int .i64 0, .int .i64 0, .bool false, .bool false, .bool false, .int .u64 0, .int .i64 0, .int .u64 0, .int .i64 0, .int .i64 0, .int .i64 0, .int .i64 0], .bool false]) ∧ Below W.heap.size W w') := fun W => ref_no _ w0 hs W
    have TDC : Hid (∀ W : World, Calls Try.prog 12 #[.agg #[.int .i64 0, .int .i64 0, .int .i64 0, .bool false, .bool false, .bool false, .int .u64 0, .int .i64 0, .int .u64 0, .int .i64 0, .int .i64 0, .int .i64 0, .int .i64 0]] W fun e w' => e = .returned (.agg #[.int .i64 0, .int .i64 0, .int .i64 0, .bool false, .bool false, .bool false, .int .u64 0, .int .i64 0, .int .u64 0, .int .i64 0, .int .i64 0, .int .i64 0, .int .i64 0]) ∧ Below W.heap.size W w') := fun W => told_any Cl.zero W
    have EQX : ∀ W : World, (binOp .eql 35 (.agg #[.int .i64 0, .int .i64 0, .int .i64 0, .bool false, .bool false, .bool false, .int .u64 0, .int .i64 0, .int .u64 0, .int .i64 0, .int .i64 0, .int .i64 0, .int .i64 0]) (.agg #[.int .i64 0, .int .i64 0, .int .i64 0, .bool false, .bool false, .bool false, .int .u64 0, .int .i64 0, .int .u64 0, .int .i64 0, .int .i64 0, .int .i64 0, .int .i64 0])).run Try.prog W = .ok (.bool true) W := fun W => by
        have := eqX Cl.zero Cl.zero W
        rw [decide_eq_true rfl] at this
        exact this
    clear hs w0
    go_enter Try.func3, Try.ntmps3
    go_wp2_with fail
    refine (R1.out _).mono ?_
    rintro e u1 ⟨rfl, hb⟩
    have B1 : Hid (Below w.heap.size w u1) := below_then (Go.Joins.below_alloc1 _ _) hb
    have Z1 : Hid (Blk u1 w.heap.size [.int .u64 x0, .int .u64 x1, .int .u64 x2, .int .u64 x3, .int .u64 x4, .int .u64 x5] 24) := Z0.out.below hb
    have K1 : Hid (Blk (u1.alloc (.cells #[.int .i64 0, .int .i64 0, .int .i64 0, .bool false, .bool false, .bool false, .int .u64 0, .int .i64 0, .int .u64 0, .int .i64 0, .int .i64 0, .int .i64 0, .int .i64 0] 30)) u1.heap.size [.int .i64 0, .int .i64 0, .int .i64 0, .bool false, .bool false, .bool false, .int .u64 0, .int .i64 0, .int .u64 0, .int .i64 0, .int .i64 0, .int .i64 0, .int .i64 0] 30) := Blk.made u1 _ _
    clear hb
    have yc0 : u1.cell? ⟨w.heap.size, 0, none⟩ = some (.int .u64 x0) := Z1.out.cell 0
    have yc1 : u1.cell? ⟨w.heap.size, 1, none⟩ = some (.int .u64 x1) := Z1.out.cell 1
    have yc2 : u1.cell? ⟨w.heap.size, 2, none⟩ = some (.int .u64 x2) := Z1.out.cell 2
    have yc3 : u1.cell? ⟨w.heap.size, 3, none⟩ = some (.int .u64 x3) := Z1.out.cell 3
    have yc4 : u1.cell? ⟨w.heap.size, 4, none⟩ = some (.int .u64 x4) := Z1.out.cell 4
    have yc5 : u1.cell? ⟨w.heap.size, 5, none⟩ = some (.int .u64 x5) := Z1.out.cell 5
    have lt1 : w.heap.size < u1.heap.size := blk_lt Z1.out
    go_wp2_with fail
    refine (R2.out _).mono ?_
    rintro e u2 ⟨rfl, hb⟩
    have B2 : Hid (Below w.heap.size w (u2.alloc (.cells #[.int .i64 0, .int .i64 0, .int .i64 0, .bool false, .bool false, .bool false, .int .u64 0, .int .i64 0, .int .u64 0, .int .i64 0, .int .i64 0, .int .i64 0, .int .i64 0] 35))) := below_new (below_then (below_new B1.out _) hb) _
    have K2 : Hid (Blk (u2.alloc (.cells #[.int .i64 0, .int .i64 0, .int .i64 0, .bool false, .bool false, .bool false, .int .u64 0, .int .i64 0, .int .u64 0, .int .i64 0, .int .i64 0, .int .i64 0, .int .i64 0] 35)) u1.heap.size [.int .i64 0, .int .i64 0, .int .i64 0, .bool false, .bool false, .bool false, .int .u64 0, .int .i64 0, .int .u64 0, .int .i64 0, .int .i64 0, .int .i64 0, .int .i64 0] 30) := (K1.out.below hb).below (Go.Joins.below_alloc1 _ _)
    have X2 : Hid (Blk (u2.alloc (.cells #[.int .i64 0, .int .i64 0, .int .i64 0, .bool false, .bool false, .bool false, .int .u64 0, .int .i64 0, .int .u64 0, .int .i64 0, .int .i64 0, .int .i64 0, .int .i64 0] 35)) u2.heap.size [.int .i64 0, .int .i64 0, .int .i64 0, .bool false, .bool false, .bool false, .int .u64 0, .int .i64 0, .int .u64 0, .int .i64 0, .int .i64 0, .int .i64 0, .int .i64 0] 35) := Blk.made u2 _ _
    clear hb K1
    go_upto_region 3 with fail
    have BD : Hid (Below w.heap.size w (u2.alloc (.cells #[.int .i64 0, .int .i64 0, .int .i64 0, .bool false, .bool false, .bool false, .int .u64 0, .int .i64 0, .int .u64 0, .int .i64 0, .int .i64 0, .int .i64 0, .int .i64 0] 35)).drew) := below_drew B2.out
    have KD : Hid (Blk (u2.alloc (.cells #[.int .i64 0, .int .i64 0, .int .i64 0, .bool false, .bool false, .bool false, .int .u64 0, .int .i64 0, .int .u64 0, .int .i64 0, .int .i64 0, .int .i64 0, .int .i64 0] 35)).drew u1.heap.size [.int .i64 0, .int .i64 0, .int .i64 0, .bool false, .bool false, .bool false, .int .u64 0, .int .i64 0, .int .u64 0, .int .i64 0, .int .i64 0, .int .i64 0, .int .i64 0] 30) := K2.out
    have XD : Hid (Blk (u2.alloc (.cells #[.int .i64 0, .int .i64 0, .int .i64 0, .bool false, .bool false, .bool false, .int .u64 0, .int .i64 0, .int .u64 0, .int .i64 0, .int .i64 0, .int .i64 0, .int .i64 0] 35)).drew u2.heap.size [.int .i64 0, .int .i64 0, .int .i64 0, .bool false, .bool false, .bool false, .int .u64 0, .int .i64 0, .int .u64 0, .int .i64 0, .int .i64 0, .int .i64 0, .int .i64 0] 35) := X2.out
    refine wp_region_noPanic ?_
    refine wp_region_held_drew (S := fun c => Hid (Blk c u1.heap.size [.int .i64 0, .int .i64 0, .int .i64 0, .bool false, .bool false, .bool false, .int .u64 0, .int .i64 0, .int .u64 0, .int .i64 0, .int .i64 0, .int .i64 0, .int .i64 0] 30) ∧ Hid (Blk c u2.heap.size [.int .i64 0, .int .i64 0, .int .i64 0, .bool false, .bool false, .bool false, .int .u64 0, .int .i64 0, .int .u64 0, .int .i64 0, .int .i64 0, .int .i64 0, .int .i64 0] 35)) (by kernel_rfl) ?_ (fun hHeld => ?_)
    · exact ⟨K2, X2⟩
    generalize (u2.alloc (.cells #[.int .i64 0, .int .i64 0, .int .i64 0, .bool false, .bool false, .bool false, .int .u64 0, .int .i64 0, .int .u64 0, .int .i64 0, .int .i64 0, .int .i64 0, .int .i64 0] 35)).drew = U at BD KD XD hHeld ⊢
    clear B2 K2 X2
    refine wpAnyH_ready (rs := [0]) (by kernel_rfl) (by simp) ?_
    refine AllReadyH.cons (o := ⟨some 17, _, _, _, _, none⟩) rfl (fun K hK => ?_) AllReadyH.nil
    go_simp
    go_wp2_with (go_at_call 11; refine (AWH.out _).mono ?_; rintro e v1 ⟨rfl, hb⟩)
    have BV : Hid (Below w.heap.size w v1) := below_then BD.out hb
    have KV : Hid (Blk v1 u1.heap.size [.int .i64 0, .int .i64 0, .int .i64 0, .bool false, .bool false, .bool false, .int .u64 0, .int .i64 0, .int .u64 0, .int .i64 0, .int .i64 0, .int .i64 0, .int .i64 0] 30) := KD.out.below hb
    have XX : Hid (Blk v1 u2.heap.size [.int .i64 0, .int .i64 0, .int .i64 0, .bool false, .bool false, .bool false, .int .u64 0, .int .i64 0, .int .u64 0, .int .i64 0, .int .i64 0, .int .i64 0, .int .i64 0] 35) := XD.out.below hb
    clear hb hHeld BD KD XD
    refine hK.out _ _ ⟨KV, XX⟩ (fun hHeld => ?_)
    clear hK K
    try simp only [Act.put, List.setIfInBounds_toArray, List.set_cons_zero, List.set_cons_succ]
    refine wpAnyH_take (i := 1) (oi := ⟨some 18, _, _, _, _, none⟩) (v := ?_) rfl (by kernel_rfl) (by kernel_rfl) (by kernel_rfl) (fun _ _ _ h => h) (Or.inl ⟨by rfl, ?_⟩) (by assumption) ?_
    rotate_left
    · intro w hSw; (try dsimp only at hSw); go_simp; (try with_reducible rfl)
    try simp only [Act.put, List.setIfInBounds_toArray, List.set_cons_zero, List.set_cons_succ]
    refine wpAnyH_take (i := 2) (oi := ⟨some 19, _, _, _, _, some (1, true)⟩) (v := (.agg #[.int .i64 0, .int .i64 0, .int .i64 0, .bool false, .bool false, .bool false, .int .u64 0, .int .i64 0, .int .u64 0, .int .i64 0, .int .i64 0, .int .i64 0, .int .i64 0])) rfl (by kernel_rfl) (by kernel_rfl) (by kernel_rfl) (fun _ _ _ h => h) (Or.inl ⟨by rfl, ?_⟩) (by assumption) ?_
    · intro w hSw; (try dsimp only at hSw); have q0 : w.cell? ⟨u1.heap.size, 0, none⟩ = some (.int .i64 0) := hSw.1.out.cell 0; have q1 : w.cell? ⟨u1.heap.size, 1, none⟩ = some (.int .i64 0) := hSw.1.out.cell 1; have q2 : w.cell? ⟨u1.heap.size, 2, none⟩ = some (.int .i64 0) := hSw.1.out.cell 2; have q3 : w.cell? ⟨u1.heap.size, 3, none⟩ = some (.bool false) := hSw.1.out.cell 3; have q4 : w.cell? ⟨u1.heap.size, 4, none⟩ = some (.bool false) := hSw.1.out.cell 4; have q5 : w.cell? ⟨u1.heap.size, 5, none⟩ = some (.bool false) := hSw.1.out.cell 5; have q6 : w.cell? ⟨u1.heap.size, 6, none⟩ = some (.int .u64 0) := hSw.1.out.cell 6; have q7 : w.cell? ⟨u1.heap.size, 7, none⟩ = some (.int .i64 0) := hSw.1.out.cell 7; have q8 : w.cell? ⟨u1.heap.size, 8, none⟩ = some (.int .u64 0) := hSw.1.out.cell 8; have q9 : w.cell? ⟨u1.heap.size, 9, none⟩ = some (.int .i64 0) := hSw.1.out.cell 9; have q10 : w.cell? ⟨u1.heap.size, 10, none⟩ = some (.int .i64 0) := hSw.1.out.cell 10; have q11 : w.cell? ⟨u1.heap.size, 11, none⟩ = some (.int .i64 0) := hSw.1.out.cell 11; have q12 : w.cell? ⟨u1.heap.size, 12, none⟩ = some (.int .i64 0) := hSw.1.out.cell 12; go_simp; (try simp)
    try simp only [Act.put, List.setIfInBounds_toArray, List.set_cons_zero, List.set_cons_succ]
    refine wpAnyH_take (i := 4) (oi := ⟨some 21, _, _, _, _, some (1, true)⟩) (v := (.agg #[.int .i64 0, .int .i64 0, .int .i64 0, .bool false, .bool false, .bool false, .int .u64 0, .int .i64 0, .int .u64 0, .int .i64 0, .int .i64 0, .int .i64 0, .int .i64 0])) rfl (by kernel_rfl) (by kernel_rfl) (by kernel_rfl) (fun _ _ _ h => h) (Or.inl ⟨by rfl, ?_⟩) (by assumption) ?_
    · intro w hSw; (try dsimp only at hSw); have q0 : w.cell? ⟨u2.heap.size, 0, none⟩ = some (.int .i64 0) := hSw.2.out.cell 0; have q1 : w.cell? ⟨u2.heap.size, 1, none⟩ = some (.int .i64 0) := hSw.2.out.cell 1; have q2 : w.cell? ⟨u2.heap.size, 2, none⟩ = some (.int .i64 0) := hSw.2.out.cell 2; have q3 : w.cell? ⟨u2.heap.size, 3, none⟩ = some (.bool false) := hSw.2.out.cell 3; have q4 : w.cell? ⟨u2.heap.size, 4, none⟩ = some (.bool false) := hSw.2.out.cell 4; have q5 : w.cell? ⟨u2.heap.size, 5, none⟩ = some (.bool false) := hSw.2.out.cell 5; have q6 : w.cell? ⟨u2.heap.size, 6, none⟩ = some (.int .u64 0) := hSw.2.out.cell 6; have q7 : w.cell? ⟨u2.heap.size, 7, none⟩ = some (.int .i64 0) := hSw.2.out.cell 7; have q8 : w.cell? ⟨u2.heap.size, 8, none⟩ = some (.int .u64 0) := hSw.2.out.cell 8; have q9 : w.cell? ⟨u2.heap.size, 9, none⟩ = some (.int .i64 0) := hSw.2.out.cell 9; have q10 : w.cell? ⟨u2.heap.size, 10, none⟩ = some (.int .i64 0) := hSw.2.out.cell 10; have q11 : w.cell? ⟨u2.heap.size, 11, none⟩ = some (.int .i64 0) := hSw.2.out.cell 11; have q12 : w.cell? ⟨u2.heap.size, 12, none⟩ = some (.int .i64 0) := hSw.2.out.cell 12; go_simp; (try simp)
    try simp only [Act.put, List.setIfInBounds_toArray, List.set_cons_zero, List.set_cons_succ]
    refine wpAnyH_ready (rs := [3]) (by kernel_rfl) (by simp) ?_
    refine AllReadyH.cons (o := ⟨some 20, _, _, _, _, some (1, true)⟩) rfl (fun K hK => ?_) AllReadyH.nil
    go_simp
    go_wp2_with (go_at_call 12; refine (TDC.out _).mono ?_; rintro e v2 ⟨rfl, hb⟩)
    have BW : Hid (Below w.heap.size w v2) := below_then BV.out hb
    have KW : Hid (Blk v2 u1.heap.size [.int .i64 0, .int .i64 0, .int .i64 0, .bool false, .bool false, .bool false, .int .u64 0, .int .i64 0, .int .u64 0, .int .i64 0, .int .i64 0, .int .i64 0, .int .i64 0] 30) := KV.out.below hb
    have XW : Hid (Blk v2 u2.heap.size [.int .i64 0, .int .i64 0, .int .i64 0, .bool false, .bool false, .bool false, .int .u64 0, .int .i64 0, .int .u64 0, .int .i64 0, .int .i64 0, .int .i64 0, .int .i64 0] 35) := XX.out.below hb
    clear hb hHeld BV KV XX
    refine hK.out _ _ ⟨KW, XW⟩ (fun hHeld => ?_)
    clear hK K
    try simp only [Act.put, List.setIfInBounds_toArray, List.set_cons_zero, List.set_cons_succ]
    refine wpAnyH_take (i := 5) (oi := ⟨some 22, _, _, _, _, some (1, true)⟩) (v := (.bool true)) rfl (by kernel_rfl) (by kernel_rfl) (by kernel_rfl) (fun _ _ _ h => h) (Or.inl ⟨by rfl, ?_⟩) (by assumption) ?_
    · intro w hSw; (try dsimp only at hSw); go_simp; (try simp)
    try simp only [Act.put, List.setIfInBounds_toArray, List.set_cons_zero, List.set_cons_succ]
    refine wpAnyH_take (i := 6) (oi := ⟨some 23, _, _, _, _, none⟩) (v := ?_) rfl (by kernel_rfl) (by kernel_rfl) (by kernel_rfl) (fun _ _ _ h => h) (Or.inl ⟨by rfl, ?_⟩) (by assumption) ?_
    rotate_left
    · intro w hSw; (try dsimp only at hSw); go_simp; (try with_reducible rfl)
    try simp only [Act.put, List.setIfInBounds_toArray, List.set_cons_zero, List.set_cons_succ]
    refine wpAnyH_take (i := 7) (oi := ⟨some 24, _, _, _, _, none⟩) (v := ?_) rfl (by kernel_rfl) (by kernel_rfl) (by kernel_rfl) (fun _ _ _ h => h) (Or.inl ⟨by rfl, ?_⟩) (by assumption) ?_
    rotate_left
    · intro w hSw; (try dsimp only at hSw); go_simp; (try with_reducible rfl)
    try simp only [Act.put, List.setIfInBounds_toArray, List.set_cons_zero, List.set_cons_succ]
    refine wpAnyH_take (i := 8) (oi := ⟨some 25, _, _, _, _, some (7, true)⟩) (v := ?_) rfl (by kernel_rfl) (by kernel_rfl) (by kernel_rfl) (fun _ _ _ h => h) (Or.inl ⟨by rfl, ?_⟩) (by assumption) ?_
    rotate_left
    · intro w hSw; (try dsimp only at hSw); go_simp; (try with_reducible rfl)
    try simp only [Act.put, List.setIfInBounds_toArray, List.set_cons_zero, List.set_cons_succ]
    refine wpAnyH_take (i := 9) (oi := ⟨some 26, _, _, _, _, some (7, true)⟩) (v := ?_) rfl (by kernel_rfl) (by kernel_rfl) (by kernel_rfl) (fun _ _ _ h => h) (Or.inl ⟨by rfl, ?_⟩) (by assumption) ?_
    rotate_left
    · intro w hSw; (try dsimp only at hSw); go_simp; (try with_reducible rfl)
    try simp only [Act.put, List.setIfInBounds_toArray, List.set_cons_zero, List.set_cons_succ]
    refine wpAnyH_take (i := 10) (oi := ⟨some 27, _, _, _, _, some (7, true)⟩) (v := ?_) rfl (by kernel_rfl) (by kernel_rfl) (by kernel_rfl) (fun _ _ _ h => h) (Or.inl ⟨by rfl, ?_⟩) (by assumption) ?_
    rotate_left
    · intro w hSw; (try dsimp only at hSw); go_simp; (try with_reducible rfl)
    try simp only [Act.put, List.setIfInBounds_toArray, List.set_cons_zero, List.set_cons_succ]
    refine wpAnyH_take (i := 11) (oi := ⟨some 28, _, _, _, _, some (7, true)⟩) (v := ?_) rfl (by kernel_rfl) (by kernel_rfl) (by kernel_rfl) (fun _ _ _ h => h) (Or.inl ⟨by rfl, ?_⟩) (by assumption) ?_
    rotate_left
    · intro w hSw; (try dsimp only at hSw); go_simp; (try with_reducible rfl)
    try simp only [Act.put, List.setIfInBounds_toArray, List.set_cons_zero, List.set_cons_succ]
    refine wpAnyH_take (i := 12) (oi := ⟨some 29, _, _, _, _, none⟩) (v := ?_) rfl (by kernel_rfl) (by kernel_rfl) (by kernel_rfl) (fun _ _ _ h => h) (Or.inl ⟨by rfl, ?_⟩) (by assumption) ?_
    rotate_left
    · intro w hSw; (try dsimp only at hSw); go_simp; (try with_reducible rfl)
    try simp only [Act.put, List.setIfInBounds_toArray, List.set_cons_zero, List.set_cons_succ]
    refine wpAnyH_take (i := 13) (oi := ⟨some 30, _, _, _, _, none⟩) (v := ?_) rfl (by kernel_rfl) (by kernel_rfl) (by kernel_rfl) (fun _ _ _ h => h) (Or.inl ⟨by rfl, ?_⟩) (by assumption) ?_
    rotate_left
    · intro w hSw; (try dsimp only at hSw); go_simp; (try with_reducible rfl)
    try simp only [Act.put, List.setIfInBounds_toArray, List.set_cons_zero, List.set_cons_succ]
    refine wpAnyH_take (i := 14) (oi := ⟨some 31, _, _, _, _, some (13, true)⟩) (v := ?_) rfl (by kernel_rfl) (by kernel_rfl) (by kernel_rfl) (fun _ _ _ h => h) (Or.inl ⟨by rfl, ?_⟩) (by assumption) ?_
    rotate_left
    · intro w hSw; (try dsimp only at hSw); go_simp; (try with_reducible rfl)
    try simp only [Act.put, List.setIfInBounds_toArray, List.set_cons_zero, List.set_cons_succ]
    refine wpAnyH_take (i := 15) (oi := ⟨some 32, _, _, _, _, some (13, true)⟩) (v := ?_) rfl (by kernel_rfl) (by kernel_rfl) (by kernel_rfl) (fun _ _ _ h => h) (Or.inl ⟨by rfl, ?_⟩) (by assumption) ?_
    rotate_left
    · intro w hSw; (try dsimp only at hSw); go_simp; (try with_reducible rfl)
    try simp only [Act.put, List.setIfInBounds_toArray, List.set_cons_zero, List.set_cons_succ]
    refine wpAnyH_take (i := 16) (oi := ⟨some 33, _, _, _, _, some (15, false)⟩) (v := ?_) rfl (by kernel_rfl) (by kernel_rfl) (by kernel_rfl) (fun _ _ _ h => h) (Or.inl ⟨by rfl, ?_⟩) (by assumption) ?_
    rotate_left
    · intro w hSw; (try dsimp only at hSw); go_simp; (try with_reducible rfl)
    try simp only [Act.put, List.setIfInBounds_toArray, List.set_cons_zero, List.set_cons_succ]
    refine wpAnyH_take (i := 17) (oi := ⟨some 34, _, _, _, _, some (15, false)⟩) (v := ?_) rfl (by kernel_rfl) (by kernel_rfl) (by kernel_rfl) (fun _ _ _ h => h) (Or.inl ⟨by rfl, ?_⟩) (by assumption) ?_
    rotate_left
    · intro w hSw; (try dsimp only at hSw); go_simp; (try with_reducible rfl)
    try simp only [Act.put, List.setIfInBounds_toArray, List.set_cons_zero, List.set_cons_succ]
    refine wpAnyH_take (i := 18) (oi := ⟨some 35, _, _, _, _, some (13, true)⟩) (v := ?_) rfl (by kernel_rfl) (by kernel_rfl) (by kernel_rfl) (fun _ _ _ h => h) (Or.inl ⟨by rfl, ?_⟩) (by assumption) ?_
    rotate_left
    · intro w hSw; (try dsimp only at hSw); go_simp; (try with_reducible rfl)
    try simp only [Act.put, List.setIfInBounds_toArray, List.set_cons_zero, List.set_cons_succ]
    refine wpAnyH_take (i := 19) (oi := ⟨some 36, _, _, _, _, none⟩) (v := ?_) rfl (by kernel_rfl) (by kernel_rfl) (by kernel_rfl) (fun _ _ _ h => h) (Or.inl ⟨by rfl, ?_⟩) (by assumption) ?_
    rotate_left
    · intro w hSw; (try dsimp only at hSw); go_simp; (try with_reducible rfl)
    try simp only [Act.put, List.setIfInBounds_toArray, List.set_cons_zero, List.set_cons_succ]
    refine wpAnyH_take (i := 20) (oi := ⟨some 2, _, _, _, _, none⟩) (v := ?_) rfl (by kernel_rfl) (by kernel_rfl) (by kernel_rfl) (fun _ _ _ h => h) (Or.inl ⟨by rfl, ?_⟩) (by assumption) ?_
    rotate_left
    · intro w hSw; (try dsimp only at hSw); go_simp; (try with_reducible rfl)
    try simp only [Act.put, List.setIfInBounds_toArray, List.set_cons_zero, List.set_cons_succ]
    clear hHeld
    refine wpAnyH_done (by kernel_rfl) ?_ _
    refine NoPanic.normal ?_
    go_wp2_with fail
    go_ret
    exact ⟨rfl, BW.out⟩

theorem own : ownKnob Try.prog.godebug = none := by kernel_rfl
theorem laidOut : laidOutB Try.prog = true := by kernel_rfl
set_option maxRecDepth 100000 in
theorem lifted (os : Os) (started : os.Started) (H : Type) (enc : TypeId × Value → H) :
    ReturnsInHanded {} Try.checked os 3 .any (Rows.callReadsSpec.pre6 enc Try.prog Try.f3 Rows.callReadsRow.domain false) (Rows.callReadsSpec.post enc Try.prog Try.f3 false true false false) := by
  refine returnsInHanded_of_change (C := Try.checked) own started (by kernel_rfl) Try.func3
    (ChangeSpec.witness6 (enc := enc) (C := Try.checked) false ⟨#[], #[.agg #[.int .u64 0, .int .u64 0, .int .u64 0, .int .u64 0, .int .u64 0, .int .u64 0]], []⟩ 8 (by kernel_rfl) (by kernel_rfl) (by kernel_rfl) (by kernel_rfl)) ?_
  intro W base args ds gs before hval0 hW hcnd _
  have hval : ∀ (j : Nat) t v, Try.f3.params[j]? = some t → args[j]? = some v → Value.okWide Try.prog W .any base t v := hval0
  have hW' := hW
  obtain ⟨p, q, hA0, hV, hbef, hfz, hnd⟩ := hW
  have hA : DataW.TrodAll enc Try.prog W 0 (fun _ => true) true Try.f3.params.toList args.toList ds p := hA0
  have hAk := hA
  have hlt : ∀ x ∈ p, x.block < W.heap.size := fun x hx => hW'.lt x (by rw [hbef]; exact List.mem_append_left _ hx)
  rw [Try.params3] at hA hval
  obtain ⟨v0, vs0, d0, ds0, p0, q0, hargs, rfl, hp0, h0, r0⟩ := trodAll_cons hA
  obtain ⟨rfl, rfl, hpz⟩ := trodAll_nil r0
  obtain rfl : args = #[v0] := by cases args; simp_all
  obtain ⟨rfl, rfl⟩ := trodVars_none hV
  obtain ⟨D0, rfl, w0⟩ := open_wd (hval 0 24 v0 rfl rfl) h0
  clear hA0 hval0
  refine (walk D0 w0 W ).mono fun e W' ⟨he, hg⟩ => ?_
  subst he
  exact ⟨_, rfl, ⟨_, _, _, [], p, [], hW', (trodAll_cons_mk (shut_bool Try.underlying4 _) trodAll_mk0), args_stay laidOut hg (by kernel_rfl) hAk hlt, rfl, hg.frame _, fun h => by cases h⟩⟩

theorem over : Rows.callReadsRow.holds Try.pinned (OpenSpec.ofChange Rows.callReadsSpec) :=
  OpenClaim.holds_of_wide 3 Try.f3 rfl rfl rfl rfl rfl rfl rfl ⟨rfl, rfl, rfl, rfl, rfl⟩ rfl rfl rfl rfl rfl (by kernel_rfl) Try.func3 (by kernel_rfl)
    (of_decide_eq_true (by kernel_rfl)) (by unfold Func.isWrapper; first | (rw [if_pos (by decide +kernel)]; kernel_rfl) | (rw [if_neg (by decide +kernel)]; exact ⟨rfl, rfl⟩))
    (fun os started H enc _ => lifted os started H enc)

theorem proved : Rows.CallReadsSaid :=
  over
#print axioms proved
end Go.Proofs.Ytccbacjiiffheaa.callReads
