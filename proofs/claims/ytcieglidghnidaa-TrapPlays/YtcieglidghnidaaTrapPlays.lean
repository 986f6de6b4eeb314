/- TrapPlays: behind any 60 calls of any state registers and faults are as the document says. No condition. -/
import Derived.Test.YtcieglidghnidaaRows
import Derived.ProofKit
import Derived.OpenShut
import Derived.Carry
import Derived.Test.YtcieglidghnidaaAD
namespace Go.Proofs.Ytcieglidghnidaa.trapPlays
open Go.ChangeShapes Go.WideShapes Go.ChangeAt Go.RowKit Go.Maps
set_option linter.unusedSimpArgs false
set_option linter.unusedVariables false
theorem ac_info : (Try.prog.info? 37).map (·.size) = some 8 := by kernel_rfl
theorem range_below {w W : World} {b o : Nat} {C : List Value} (h : w.rangeAt b o C) (hb : Below w.heap.size w W) (l : b < w.heap.size) : W.rangeAt b o C := fun j v hv => (hb.cell (p := ⟨b, o + j, none⟩) l).trans (h j v hv)

set_option maxRecDepth 8000 in
set_option maxHeartbeats 16000000 in
theorem walk (s0 : St) (w0 : (Lit.int .u64 (s0.r0)).wf = true ∧ (Lit.int .u64 (s0.r1)).wf = true ∧ (Lit.int .u64 (s0.r2)).wf = true ∧ (Lit.int .u64 (s0.r3)).wf = true ∧ (Lit.int .i64 (s0.told)).wf = true ∧ (Lit.int .u64 (s0.en)).wf = true ∧ (Lit.int .u64 (s0.fa)).wf = true ∧ (Lit.int .i64 (s0.fc)).wf = true ∧ (Lit.int .u64 (s0.s0)).wf = true ∧ (Lit.int .u64 (s0.s1)).wf = true ∧ (Lit.int .u64 (s0.s2)).wf = true ∧ (Lit.int .u64 (s0.s3)).wf = true ∧ True) (p1 : Option Addr) (n1 c1 : Nat) (A1 : Nat → Ac) (m1 : n1 ≤ maxLen) (w : World) (H1 : IsActs w p1 n1 A1) :
    Calls Try.prog 3 #[s0.val, .slice p1 n1 c1] w fun e w' => e = .returned (.bool true) ∧ Below w.heap.size w w' := by
  have AW : Hid (∀ W : World, Calls Try.prog 8 #[] W fun e w' => e = .returned (.bool true) ∧ Below W.heap.size W w') := fun W => awake_any W
  have hw0 : Hid s0.wf := ⟨wfu w0.1, wfu w0.2.1, wfu w0.2.2.1, wfu w0.2.2.2.1, wfi w0.2.2.2.2.1, wfu w0.2.2.2.2.2.2.2.2.1, wfu w0.2.2.2.2.2.2.2.2.2.1, wfu w0.2.2.2.2.2.2.2.2.2.2.1, wfu w0.2.2.2.2.2.2.2.2.2.2.2.1⟩
  clear w0
  have HA : Hid (IsActs w p1 n1 A1) := H1
  clear H1
  have mm : (n1 : Int) ≤ 9223372036854775807 := by have : maxLen ≤ 9223372036854775807 := by decide +kernel
                                                   omega
  have DOES : Hid (∀ (S : St), S.wf → ∀ (A : Ac) (W : World), Calls Try.prog 9 #[S.val, S.val, A.val] W fun e w' => e = .returned (.tuple #[(actS S A).val, (actS S A).val, .bool true]) ∧ Below W.heap.size W w') := fun S hS A W => by
    have h := does_all S S A hS hS W _ rfl _ _ _ rfl rfl rfl
    rw [decide_eq_true (show actE S A = actE S A ∧ actS S A = actS S A from ⟨rfl, rfl⟩)] at h
    exact h
  obtain ⟨r0, r1, r2, r3, t, en, i, fa, fc, p0, p1, p2, p3⟩ := s0
  have TO : Hid (∀ W : World, Calls Try.prog 7 #[.agg #[.int .u64 r0, .int .u64 r1, .int .u64 r2, .int .u64 r3, .int .i64 t, .int .u64 en, .bool i, .int .u64 fa, .int .i64 fc, .int .u64 p0, .int .u64 p1, .int .u64 p2, .int .u64 p3]] W fun e w' => e = .returned (.agg #[.int .u64 r0, .int .u64 r1, .int .u64 r2, .int .u64 r3, .int .i64 t, .int .u64 en, .bool i, .int .u64 fa, .int .i64 fc, .int .u64 p0, .int .u64 p1, .int .u64 p2, .int .u64 p3]) ∧ Below W.heap.size W w') := fun W => told_st r0 r1 r2 r3 t en i fa fc p0 p1 p2 p3 W
  go_enter Try.func3, Try.ntmps3
  go_wp2_with fail
  refine (TO.out _).mono ?_
  rintro e u1 ⟨rfl, hb⟩
  have Zs1 : Hid (Blk u1 w.heap.size [.int .u64 r0, .int .u64 r1, .int .u64 r2, .int .u64 r3, .int .i64 t, .int .u64 en, .bool i, .int .u64 fa, .int .i64 fc, .int .u64 p0, .int .u64 p1, .int .u64 p2, .int .u64 p3] 28) := (Blk.made w _ _).below hb
  have B1 : Hid (Below w.heap.size w u1) := below_then (Go.Joins.below_alloc1 _ _) hb
  clear hb TO
  go_wp2_with fail
  refine (AW.out _).mono ?_
  rintro e u2 ⟨rfl, hb⟩
  have Zs2 : Hid (Blk u2 w.heap.size (St.cells ⟨r0, r1, r2, r3, t, en, i, fa, fc, p0, p1, p2, p3⟩) 28) := (Zs1.out.below (Go.Joins.below_alloc1 _ _)).below hb
  have Zx2 : Hid (Blk u2 u1.heap.size (St.cells ⟨r0, r1, r2, r3, t, en, i, fa, fc, p0, p1, p2, p3⟩) 31) := (Blk.made u1 _ _).below hb
  have B2 : Hid (Below w.heap.size w u2) := below_then (below_new B1.out _) hb
  have NX : Hid (w.heap.size < u1.heap.size) := blk_lt Zs1.out
  clear hb Zs1 B1 AW
  generalize u1.heap.size = bx at Zx2 NX ⊢
  go_wp2_with fail
  go_loopw [6] (fun v W => ∃ (k : Nat) (S : St), k ≤ n1 ∧ k ≤ 60 ∧ v = .int .i64 k ∧ Hid S.wf ∧ Hid (Blk W w.heap.size S.cells 28) ∧ Hid (Blk W bx S.cells 31) ∧ Hid (Below w.heap.size w W)) (fun v _ => 60 - (intOf v).toNat)
  case atStart => exact ⟨0, _, by omega, by omega, rfl, hw0, Zs2, Zx2, B2⟩
  case round =>
    clear Zs2 Zx2 B2 hw0
    obtain ⟨k, S, hk, hk6, rfl, hS, Zs, Zx, BW⟩ := hrel
    by_cases hlt : k < n1
    rotate_left
    · have hd : decide ((k : Int) < (n1 : Int)) = false := by simp; omega
      go_wp2_with fail
      go_ret
      exact ⟨rfl, BW.out⟩
    have hd : decide ((k : Int) < (n1 : Int)) = true := by simp; omega
    by_cases hl6 : k < 60
    rotate_left
    · have hd2 : decide ((k : Int) < 60) = false := by simp; omega
      go_wp2_with fail
      go_ret
      exact ⟨rfl, BW.out⟩
    have hd2 : decide ((k : Int) < 60) = true := by simp; omega
    have hd0 : decide ((k : Int) < 0) = false := by simp
    obtain ⟨bq, oq, rfl, lq, y0, y1, y2, y3, y4, y5, y6, y7, g5, g6, g7⟩ := HA.out k hlt
    have z0 : wr.cell? ⟨bq, oq + k * 8 + 0, none⟩ = some (.int .i64 (A1 k).kind) := (World.cell?_of_block (BW.out.block bq lq)).trans y0
    have z1 : wr.cell? ⟨bq, oq + k * 8 + 1, none⟩ = some (.int .i64 (A1 k).op) := (World.cell?_of_block (BW.out.block bq lq)).trans y1
    have z2 : wr.cell? ⟨bq, oq + k * 8 + 2, none⟩ = some (.int .i64 (A1 k).a) := (World.cell?_of_block (BW.out.block bq lq)).trans y2
    have z3 : wr.cell? ⟨bq, oq + k * 8 + 3, none⟩ = some (.int .i64 (A1 k).b) := (World.cell?_of_block (BW.out.block bq lq)).trans y3
    have z4 : wr.cell? ⟨bq, oq + k * 8 + 4, none⟩ = some (.int .i64 (A1 k).d) := (World.cell?_of_block (BW.out.block bq lq)).trans y4
    have z5 : wr.cell? ⟨bq, oq + k * 8 + 5, none⟩ = some (.int .u64 (A1 k).x) := (World.cell?_of_block (BW.out.block bq lq)).trans y5
    have z6 : wr.cell? ⟨bq, oq + k * 8 + 6, none⟩ = some (.int .u64 (A1 k).fa) := (World.cell?_of_block (BW.out.block bq lq)).trans y6
    have z7 : wr.cell? ⟨bq, oq + k * 8 + 7, none⟩ = some (.int .i64 (A1 k).fc) := (World.cell?_of_block (BW.out.block bq lq)).trans y7
    have lq2 : bq < wr.heap.size := Nat.lt_of_lt_of_le lq BW.out.size
    clear y0 y1 y2 y3 y4 y5 y6 y7 g7
    have DD := DOES.out S hS.out (A1 k)
    have HW : Hid (actS S (A1 k)).wf := actS_wf hS.out (wfu g5) (wfu g6)
    clear g5 g6
    generalize A1 k = ac at z0 z1 z2 z3 z4 z5 z6 z7 DD HW
    obtain ⟨kd, op, a, b, d, x, ga, gc⟩ := ac
    simp only at z0 z1 z2 z3 z4 z5 z6 z7
    generalize actS S ⟨kd, op, a, b, d, x, ga, gc⟩ = S2 at DD HW
    have CD : Hid (∀ W : World, Calls Try.prog 9 #[S.val, S.val, .agg #[.int .i64 kd, .int .i64 op, .int .i64 a, .int .i64 b, .int .i64 d, .int .u64 x, .int .u64 ga, .int .i64 gc]] W fun e w' => e = .returned (.tuple #[S2.val, S2.val, .bool true]) ∧ Below W.heap.size W w') := DD
    clear DD hS
    obtain ⟨r0, r1, r2, r3, t, en, i, fa, fc, p0, p1, p2, p3⟩ := S
    obtain ⟨q0, q1, q2, q3, q4, q5, q6, q7, q8, q9, q10, q11, q12⟩ := S2
    have ACT : Hid (wr.rangeAt bq (oq + k * 8) [.int .i64 kd, .int .i64 op, .int .i64 a, .int .i64 b, .int .i64 d, .int .u64 x, .int .u64 ga, .int .i64 gc]) := fun j v hv => by
      match j with
      | 0 => cases hv; exact z0
      | 1 => cases hv; exact z1
      | 2 => cases hv; exact z2
      | 3 => cases hv; exact z3
      | 4 => cases hv; exact z4
      | 5 => cases hv; exact z5
      | 6 => cases hv; exact z6
      | 7 => cases hv; exact z7
      | j + 8 => simp at hv
    clear z0 z1 z2 z3 z4 z5 z6 z7
    go_upto_region 7 with fail
    go_cut [7, 8, 9] (fun a b c W => ∃ b7 b8 : Nat, a = .pointer (some ⟨b7, 0, none⟩) ∧ b = .pointer (some ⟨b8, 0, none⟩) ∧ c = .bool true ∧ Hid (Blk W b7 [.int .u64 q0, .int .u64 q1, .int .u64 q2, .int .u64 q3, .int .i64 q4, .int .u64 q5, .bool q6, .int .u64 q7, .int .i64 q8, .int .u64 q9, .int .u64 q10, .int .u64 q11, .int .u64 q12] 28) ∧ Hid (Blk W b8 [.int .u64 q0, .int .u64 q1, .int .u64 q2, .int .u64 q3, .int .i64 q4, .int .u64 q5, .bool q6, .int .u64 q7, .int .i64 q8, .int .u64 q9, .int .u64 q10, .int .u64 q11, .int .u64 q12] 31) ∧ Hid (Blk W w.heap.size [.int .u64 r0, .int .u64 r1, .int .u64 r2, .int .u64 r3, .int .i64 t, .int .u64 en, .bool i, .int .u64 fa, .int .i64 fc, .int .u64 p0, .int .u64 p1, .int .u64 p2, .int .u64 p3] 28) ∧ Hid (Blk W bx [.int .u64 r0, .int .u64 r1, .int .u64 r2, .int .u64 r3, .int .i64 t, .int .u64 en, .bool i, .int .u64 fa, .int .i64 fc, .int .u64 p0, .int .u64 p1, .int .u64 p2, .int .u64 p3] 31) ∧ Hid (Below w.heap.size w W) ∧ Hid (b7 ≠ w.heap.size ∧ b7 ≠ bx ∧ b8 ≠ w.heap.size ∧ b8 ≠ bx))
    case first =>
      refine wp_region_noPanic ?_
      refine wp_region_held_drew (S := fun c => Blk c w.heap.size [.int .u64 r0, .int .u64 r1, .int .u64 r2, .int .u64 r3, .int .i64 t, .int .u64 en, .bool i, .int .u64 fa, .int .i64 fc, .int .u64 p0, .int .u64 p1, .int .u64 p2, .int .u64 p3] 28 ∧ Blk c bx [.int .u64 r0, .int .u64 r1, .int .u64 r2, .int .u64 r3, .int .i64 t, .int .u64 en, .bool i, .int .u64 fa, .int .i64 fc, .int .u64 p0, .int .u64 p1, .int .u64 p2, .int .u64 p3] 31 ∧ Hid (c.rangeAt bq (oq + k * 8) [.int .i64 kd, .int .i64 op, .int .i64 a, .int .i64 b, .int .i64 d, .int .u64 x, .int .u64 ga, .int .i64 gc]) ∧ Below w.heap.size w c ∧ bq < c.heap.size) (by kernel_rfl) ?_ (fun hH => ?_)
      · exact ⟨Zs.out, Zx.out, ACT.out, below_drew BW.out, lq2⟩
      clear Zs Zx ACT BW lq2
      generalize wr.drew = v0 at hH ⊢
      refine wpAnyH_take (i := 0) (oi := ⟨some 25, _, _, _, _, none⟩) (v := .agg #[.int .u64 r0, .int .u64 r1, .int .u64 r2, .int .u64 r3, .int .i64 t, .int .u64 en, .bool i, .int .u64 fa, .int .i64 fc, .int .u64 p0, .int .u64 p1, .int .u64 p2, .int .u64 p3]) rfl (by kernel_rfl) (by kernel_rfl) (by kernel_rfl) (fun _ _ _ h => h) (yieldsIf_load_mid (by rfl) 28 _ rfl (w.heap.size) (0) rfl [.int .u64 r0, .int .u64 r1, .int .u64 r2, .int .u64 r3, .int .i64 t, .int .u64 en, .bool i, .int .u64 fa, .int .i64 fc, .int .u64 p0, .int .u64 p1, .int .u64 p2, .int .u64 p3] _ (fun _ h => Blk.range h.1) Try.underlying28 rfl st_info) (by assumption) ?_
      try simp only [Act.put, List.setIfInBounds_toArray, List.set_cons_zero, List.set_cons_succ]
      refine wpAnyH_take (i := 1) (oi := ⟨some 26, _, _, _, _, none⟩) (v := .agg #[.int .u64 r0, .int .u64 r1, .int .u64 r2, .int .u64 r3, .int .i64 t, .int .u64 en, .bool i, .int .u64 fa, .int .i64 fc, .int .u64 p0, .int .u64 p1, .int .u64 p2, .int .u64 p3]) rfl (by kernel_rfl) (by kernel_rfl) (by kernel_rfl) (fun _ _ _ h => h) (yieldsIf_load_mid (by rfl) 31 _ rfl (bx) (0) rfl [.int .u64 r0, .int .u64 r1, .int .u64 r2, .int .u64 r3, .int .i64 t, .int .u64 en, .bool i, .int .u64 fa, .int .i64 fc, .int .u64 p0, .int .u64 p1, .int .u64 p2, .int .u64 p3] _ (fun _ h => Blk.range h.2.1) Try.underlying31 rfl sx_info) (by assumption) ?_
      try simp only [Act.put, List.setIfInBounds_toArray, List.set_cons_zero, List.set_cons_succ]
      refine wpAnyH_take (i := 2) (oi := ⟨some 27, _, _, _, _, none⟩) (v := ?_) rfl (by kernel_rfl) (by kernel_rfl) (by kernel_rfl) (fun _ _ _ h => h) (Or.inl ⟨by rfl, ?_⟩) (by assumption) ?_
      rotate_left
      · intro w hSw; (try dsimp only at hSw); go_simp; (try with_reducible rfl)
      try simp only [Act.put, List.setIfInBounds_toArray, List.set_cons_zero, List.set_cons_succ]
      refine wpAnyH_take (i := 3) (oi := ⟨some 28, _, _, _, _, none⟩) (v := ?_) rfl (by kernel_rfl) (by kernel_rfl) (by kernel_rfl) (fun _ _ _ h => h) (Or.inl ⟨by rfl, ?_⟩) (by assumption) ?_
      rotate_left
      · intro w hSw; (try dsimp only at hSw); go_simp; (try with_reducible rfl)
      try simp only [Act.put, List.setIfInBounds_toArray, List.set_cons_zero, List.set_cons_succ]
      refine wpAnyH_take (i := 4) (oi := ⟨some 29, _, _, _, _, none⟩) (v := ?_) rfl (by kernel_rfl) (by kernel_rfl) (by kernel_rfl) (fun _ _ _ h => h) (Or.inl ⟨by rfl, ?_⟩) (by assumption) ?_
      rotate_left
      · intro w hSw; (try dsimp only at hSw); go_simp; (try with_reducible rfl)
      try simp only [Act.put, List.setIfInBounds_toArray, List.set_cons_zero, List.set_cons_succ]
      refine wpAnyH_take (i := 5) (oi := ⟨some 30, _, _, _, _, none⟩) (v := .agg #[.int .i64 kd, .int .i64 op, .int .i64 a, .int .i64 b, .int .i64 d, .int .u64 x, .int .u64 ga, .int .i64 gc]) rfl (by kernel_rfl) (by kernel_rfl) (by kernel_rfl) (fun _ _ _ h => h) (yieldsIf_load_mid (by rfl) 37 _ rfl (bq) (oq + k * 8) rfl [.int .i64 kd, .int .i64 op, .int .i64 a, .int .i64 b, .int .i64 d, .int .u64 x, .int .u64 ga, .int .i64 gc] _ (fun _ h => h.2.2.1.out) Try.underlying37 rfl ac_info) (by assumption) ?_
      try simp only [Act.put, List.setIfInBounds_toArray, List.set_cons_zero, List.set_cons_succ]
      refine wpAnyH_ready (rs := [6, 11, 12]) (by kernel_rfl) (by simp) ?_
      refine AllReadyH.cons (o := ⟨some 31, _, _, _, _, none⟩) rfl (fun K hK => ?_) ?_
      · go_simp
        go_wp2_with (go_at_call 9; refine (CD.out _).mono ?_; rintro e v1 ⟨rfl, hb⟩)
        refine hK.out _ _ ⟨Blk.below hH.1 hb, Blk.below hH.2.1 hb, range_below hH.2.2.1.out hb hH.2.2.2.2, below_then hH.2.2.2.1 hb, Nat.lt_of_lt_of_le hH.2.2.2.2 (Below.size hb)⟩ (fun hH1 => ?_)
        clear hK K hb hH 
        try simp only [Act.put, List.setIfInBounds_toArray, List.set_cons_zero, List.set_cons_succ]
        refine wpAnyH_take (i := 7) (oi := ⟨some 24, _, _, _, _, none⟩) (v := ?_) rfl (by kernel_rfl) (by kernel_rfl) (by kernel_rfl) (fun _ _ _ h => h) (Or.inl ⟨by rfl, ?_⟩) (by assumption) ?_
        rotate_left
        · intro w hSw; (try dsimp only at hSw); go_simp; (try with_reducible rfl)
        try simp only [Act.put, List.setIfInBounds_toArray, List.set_cons_zero, List.set_cons_succ]
        refine wpAnyH_take (i := 8) (oi := ⟨some 32, _, _, _, _, none⟩) (v := ?_) rfl (by kernel_rfl) (by kernel_rfl) (by kernel_rfl) (fun _ _ _ h => h) (Or.inl ⟨by rfl, ?_⟩) (by assumption) ?_
        rotate_left
        · intro w hSw; (try dsimp only at hSw); go_simp; (try with_reducible rfl)
        try simp only [Act.put, List.setIfInBounds_toArray, List.set_cons_zero, List.set_cons_succ]
        refine wpAnyH_take (i := 9) (oi := ⟨some 33, _, _, _, _, none⟩) (v := ?_) rfl (by kernel_rfl) (by kernel_rfl) (by kernel_rfl) (fun _ _ _ h => h) (Or.inl ⟨by rfl, ?_⟩) (by assumption) ?_
        rotate_left
        · intro w hSw; (try dsimp only at hSw); go_simp; (try with_reducible rfl)
        try simp only [Act.put, List.setIfInBounds_toArray, List.set_cons_zero, List.set_cons_succ]
        refine wpAnyH_take (i := 10) (oi := ⟨some 34, _, _, _, _, none⟩) (v := ?_) rfl (by kernel_rfl) (by kernel_rfl) (by kernel_rfl) (fun _ _ _ h => h) (Or.inl ⟨by rfl, ?_⟩) (by assumption) ?_
        rotate_left
        · intro w hSw; (try dsimp only at hSw); go_simp; (try with_reducible rfl)
        try simp only [Act.put, List.setIfInBounds_toArray, List.set_cons_zero, List.set_cons_succ]
        refine wpAnyH_ready (rs := [11, 12]) (by kernel_rfl) (by simp) ?_
        refine AllReadyH.cons (o := ⟨some 7, _, _, _, _, none⟩) rfl (fun K hK => ?_) ?_
        · go_simp
          have NB2 : Hid (Below v1.heap.size v1 (v1.alloc (.cells #[.int .u64 0, .int .u64 0, .int .u64 0, .int .u64 0, .int .i64 0, .int .u64 0, .bool false, .int .u64 0, .int .i64 0, .int .u64 0, .int .u64 0, .int .u64 0, .int .u64 0] 28))) := Go.Joins.below_alloc1 _ _
          have n2 : Hid (Blk (v1.alloc (.cells #[.int .u64 0, .int .u64 0, .int .u64 0, .int .u64 0, .int .i64 0, .int .u64 0, .bool false, .int .u64 0, .int .i64 0, .int .u64 0, .int .u64 0, .int .u64 0, .int .u64 0] 28)) v1.heap.size [.int .u64 0, .int .u64 0, .int .u64 0, .int .u64 0, .int .i64 0, .int .u64 0, .bool false, .int .u64 0, .int .i64 0, .int .u64 0, .int .u64 0, .int .u64 0, .int .u64 0] 28) := Blk.made _ _ _
          have N2 : Hid ((v1.heap.size ≠ w.heap.size ∧ v1.heap.size ≠ bx) ∧ v1.heap.size ≠ bq ∧ w.heap.size ≤ v1.heap.size) := ⟨⟨by have := blk_lt hH1.1; omega, by have := blk_lt hH1.2.1; omega⟩, by have := hH1.2.2.2.2; omega, Below.size hH1.2.2.2.1⟩
          refine hK.out _ _ ⟨Blk.below hH1.1 NB2.out, Blk.below hH1.2.1 NB2.out, range_below hH1.2.2.1.out NB2.out hH1.2.2.2.2, below_then hH1.2.2.2.1 NB2.out, Nat.lt_of_lt_of_le hH1.2.2.2.2 (Below.size NB2.out)⟩ (fun hH2 => ?_)
          clear hK K hH1 NB2 
          try simp only [Act.put, List.setIfInBounds_toArray, List.set_cons_zero, List.set_cons_succ]
          generalize v1.alloc (.cells #[.int .u64 0, .int .u64 0, .int .u64 0, .int .u64 0, .int .i64 0, .int .u64 0, .bool false, .int .u64 0, .int .i64 0, .int .u64 0, .int .u64 0, .int .u64 0, .int .u64 0] 28) = v2 at hH2 n2  ⊢
          generalize v1.heap.size = b7 at n2 N2 ⊢
          have Qb7 : Hid _ := N2
          refine wpAnyH_ready (rs := [12]) (by kernel_rfl) (by simp) ?_
          refine AllReadyH.cons (o := ⟨some 8, _, _, _, _, none⟩) rfl (fun K hK => ?_) AllReadyH.nil
          go_simp
          have NB3 : Hid (Below v2.heap.size v2 (v2.alloc (.cells #[.int .u64 0, .int .u64 0, .int .u64 0, .int .u64 0, .int .i64 0, .int .u64 0, .bool false, .int .u64 0, .int .i64 0, .int .u64 0, .int .u64 0, .int .u64 0, .int .u64 0] 31))) := Go.Joins.below_alloc1 _ _
          have mb73 := Blk.below n2.out NB3.out
          have mb73 : Hid _ := mb73
          have n3 : Hid (Blk (v2.alloc (.cells #[.int .u64 0, .int .u64 0, .int .u64 0, .int .u64 0, .int .i64 0, .int .u64 0, .bool false, .int .u64 0, .int .i64 0, .int .u64 0, .int .u64 0, .int .u64 0, .int .u64 0] 31)) v2.heap.size [.int .u64 0, .int .u64 0, .int .u64 0, .int .u64 0, .int .i64 0, .int .u64 0, .bool false, .int .u64 0, .int .i64 0, .int .u64 0, .int .u64 0, .int .u64 0, .int .u64 0] 31) := Blk.made _ _ _
          have N3 : Hid ((v2.heap.size ≠ w.heap.size ∧ v2.heap.size ≠ bx) ∧ v2.heap.size ≠ bq ∧ w.heap.size ≤ v2.heap.size ∧ v2.heap.size ≠ b7) := ⟨⟨by have := blk_lt hH2.1; omega, by have := blk_lt hH2.2.1; omega⟩, by have := hH2.2.2.2.2; omega, Below.size hH2.2.2.2.1, by have := blk_lt n2.out; omega⟩
          refine hK.out _ _ ⟨Blk.below hH2.1 NB3.out, Blk.below hH2.2.1 NB3.out, range_below hH2.2.2.1.out NB3.out hH2.2.2.2.2, below_then hH2.2.2.2.1 NB3.out, Nat.lt_of_lt_of_le hH2.2.2.2.2 (Below.size NB3.out)⟩ (fun hH3 => ?_)
          clear hK K hH2 NB3 n2
          try simp only [Act.put, List.setIfInBounds_toArray, List.set_cons_zero, List.set_cons_succ]
          generalize v2.alloc (.cells #[.int .u64 0, .int .u64 0, .int .u64 0, .int .u64 0, .int .i64 0, .int .u64 0, .bool false, .int .u64 0, .int .i64 0, .int .u64 0, .int .u64 0, .int .u64 0, .int .u64 0] 31) = v3 at hH3 n3 mb73 ⊢
          generalize v2.heap.size = b8 at n3 N3 ⊢
          have Qb8 : Hid _ := N3
          have P7 := Qb7.out
          have P8 := Qb8.out
          obtain ⟨j1, j2, j3, j4, j5⟩ := hH3
          have i0 := (show (fun c => Blk c w.heap.size [.int .u64 r0, .int .u64 r1, .int .u64 r2, .int .u64 r3, .int .i64 t, .int .u64 en, .bool i, .int .u64 fa, .int .i64 fc, .int .u64 p0, .int .u64 p1, .int .u64 p2, .int .u64 p3] 28 ∧ Blk c bx [.int .u64 r0, .int .u64 r1, .int .u64 r2, .int .u64 r3, .int .i64 t, .int .u64 en, .bool i, .int .u64 fa, .int .i64 fc, .int .u64 p0, .int .u64 p1, .int .u64 p2, .int .u64 p3] 31 ∧ Hid (c.rangeAt bq (oq + k * 8) [.int .i64 kd, .int .i64 op, .int .i64 a, .int .i64 b, .int .i64 d, .int .u64 x, .int .u64 ga, .int .i64 gc]) ∧ Below w.heap.size w c ∧ bq < c.heap.size) v3 from ⟨j1, j2, j3, j4, j5⟩)
          refine wpAnyH_ready (rs := [13]) (by kernel_rfl) (by simp) ?_
          refine AllReadyH.cons (o := ⟨none, .store 28 (.tmp 7) (.tmp 32), _, _, _, none⟩) rfl (fun K hK => ?_) AllReadyH.nil
          refine wanted_mp rfl ?_
          have th : v3.there b7 0 13 := Blk.there mb73.out
          refine wp_store_mid _ _ _ rfl b7 0 #[.int .u64 q0, .int .u64 q1, .int .u64 q2, .int .u64 q3, .int .i64 q4, .int .u64 q5, .bool q6, .int .u64 q7, .int .i64 q8, .int .u64 q9, .int .u64 q10, .int .u64 q11, .int .u64 q12] rfl rfl th st_info (by simp [Value.oneCell']) ?_
          refine hK.out _ _ ?_ (fun i1 => ?_)
          · exact ⟨Blk.scs j1 (by omega) _ 0, Blk.scs j2 (by omega) _ 0, World.rangeAt_setCells_apart j3.out _ 0 _ (Or.inl (by omega)), below_scs j4 (by omega) _ 0, by rw [size_scs]; exact j5⟩
          clear hK K i0 th
          try simp only [Act.put, List.setIfInBounds_toArray, List.set_cons_zero, List.set_cons_succ]
          simp only [List.toList_toArray] at i1 ⊢
          have Fb7 : Hid (Blk (v3.setCells b7 0 [.int .u64 q0, .int .u64 q1, .int .u64 q2, .int .u64 q3, .int .i64 q4, .int .u64 q5, .bool q6, .int .u64 q7, .int .i64 q8, .int .u64 q9, .int .u64 q10, .int .u64 q11, .int .u64 q12]) b7 [.int .u64 q0, .int .u64 q1, .int .u64 q2, .int .u64 q3, .int .i64 q4, .int .u64 q5, .bool q6, .int .u64 q7, .int .i64 q8, .int .u64 q9, .int .u64 q10, .int .u64 q11, .int .u64 q12] 28) := Blk.scsame mb73.out _ 0
          have F2 := Blk.scs (c := b7) n3.out (by omega) [.int .u64 q0, .int .u64 q1, .int .u64 q2, .int .u64 q3, .int .i64 q4, .int .u64 q5, .bool q6, .int .u64 q7, .int .i64 q8, .int .u64 q9, .int .u64 q10, .int .u64 q11, .int .u64 q12] 0
          have F2 : Hid _ := F2
          generalize v3.setCells b7 0 [.int .u64 q0, .int .u64 q1, .int .u64 q2, .int .u64 q3, .int .i64 q4, .int .u64 q5, .bool q6, .int .u64 q7, .int .i64 q8, .int .u64 q9, .int .u64 q10, .int .u64 q11, .int .u64 q12] = X1 at i1 Fb7 F2 ⊢
          clear j1 j2 j3 j4 j5 mb73 n3
          obtain ⟨j1, j2, j3, j4, j5⟩ := i1
          have G8 := F2
          clear F2
          have i2 := (show (fun c => Blk c w.heap.size [.int .u64 r0, .int .u64 r1, .int .u64 r2, .int .u64 r3, .int .i64 t, .int .u64 en, .bool i, .int .u64 fa, .int .i64 fc, .int .u64 p0, .int .u64 p1, .int .u64 p2, .int .u64 p3] 28 ∧ Blk c bx [.int .u64 r0, .int .u64 r1, .int .u64 r2, .int .u64 r3, .int .i64 t, .int .u64 en, .bool i, .int .u64 fa, .int .i64 fc, .int .u64 p0, .int .u64 p1, .int .u64 p2, .int .u64 p3] 31 ∧ Hid (c.rangeAt bq (oq + k * 8) [.int .i64 kd, .int .i64 op, .int .i64 a, .int .i64 b, .int .i64 d, .int .u64 x, .int .u64 ga, .int .i64 gc]) ∧ Below w.heap.size w c ∧ bq < c.heap.size) X1 from ⟨j1, j2, j3, j4, j5⟩)
          refine wpAnyH_ready (rs := [14]) (by kernel_rfl) (by simp) ?_
          refine AllReadyH.cons (o := ⟨none, .store 31 (.tmp 8) (.tmp 33), _, _, _, none⟩) rfl (fun K hK => ?_) AllReadyH.nil
          refine wanted_mp rfl ?_
          have th : X1.there b8 0 13 := Blk.there G8.out
          refine wp_store_mid _ _ _ rfl b8 0 #[.int .u64 q0, .int .u64 q1, .int .u64 q2, .int .u64 q3, .int .i64 q4, .int .u64 q5, .bool q6, .int .u64 q7, .int .i64 q8, .int .u64 q9, .int .u64 q10, .int .u64 q11, .int .u64 q12] rfl rfl th sx_info (by simp [Value.oneCell']) ?_
          refine hK.out _ _ ?_ (fun i3 => ?_)
          · exact ⟨Blk.scs j1 (by omega) _ 0, Blk.scs j2 (by omega) _ 0, World.rangeAt_setCells_apart j3.out _ 0 _ (Or.inl (by omega)), below_scs j4 (by omega) _ 0, by rw [size_scs]; exact j5⟩
          clear hK K i2 th
          try simp only [Act.put, List.setIfInBounds_toArray, List.set_cons_zero, List.set_cons_succ]
          simp only [List.toList_toArray] at i3 ⊢
          have Fb8 : Hid (Blk (X1.setCells b8 0 [.int .u64 q0, .int .u64 q1, .int .u64 q2, .int .u64 q3, .int .i64 q4, .int .u64 q5, .bool q6, .int .u64 q7, .int .i64 q8, .int .u64 q9, .int .u64 q10, .int .u64 q11, .int .u64 q12]) b8 [.int .u64 q0, .int .u64 q1, .int .u64 q2, .int .u64 q3, .int .i64 q4, .int .u64 q5, .bool q6, .int .u64 q7, .int .i64 q8, .int .u64 q9, .int .u64 q10, .int .u64 q11, .int .u64 q12] 31) := Blk.scsame G8.out _ 0
          have F2 := Blk.scs (c := b8) Fb7.out (by omega) [.int .u64 q0, .int .u64 q1, .int .u64 q2, .int .u64 q3, .int .i64 q4, .int .u64 q5, .bool q6, .int .u64 q7, .int .i64 q8, .int .u64 q9, .int .u64 q10, .int .u64 q11, .int .u64 q12] 0
          have F2 : Hid _ := F2
          generalize X1.setCells b8 0 [.int .u64 q0, .int .u64 q1, .int .u64 q2, .int .u64 q3, .int .i64 q4, .int .u64 q5, .bool q6, .int .u64 q7, .int .i64 q8, .int .u64 q9, .int .u64 q10, .int .u64 q11, .int .u64 q12] = X2 at i3 Fb8 F2 ⊢
          clear j1 j2 j3 j4 j5 G8 Fb7
          obtain ⟨j1, j2, j3, j4, j5⟩ := i3
          have i3 := (show (fun c => Blk c w.heap.size [.int .u64 r0, .int .u64 r1, .int .u64 r2, .int .u64 r3, .int .i64 t, .int .u64 en, .bool i, .int .u64 fa, .int .i64 fc, .int .u64 p0, .int .u64 p1, .int .u64 p2, .int .u64 p3] 28 ∧ Blk c bx [.int .u64 r0, .int .u64 r1, .int .u64 r2, .int .u64 r3, .int .i64 t, .int .u64 en, .bool i, .int .u64 fa, .int .i64 fc, .int .u64 p0, .int .u64 p1, .int .u64 p2, .int .u64 p3] 31 ∧ Hid (c.rangeAt bq (oq + k * 8) [.int .i64 kd, .int .i64 op, .int .i64 a, .int .i64 b, .int .i64 d, .int .u64 x, .int .u64 ga, .int .i64 gc]) ∧ Below w.heap.size w c ∧ bq < c.heap.size) X2 from ⟨j1, j2, j3, j4, j5⟩)
          refine wpAnyH_take (i := 15) (oi := ⟨some 9, _, _, _, _, none⟩) (v := ?_) rfl (by kernel_rfl) (by kernel_rfl) (by kernel_rfl) (fun _ _ _ h => h) (Or.inl ⟨by rfl, ?_⟩) (by assumption) ?_
          rotate_left
          · intro w hSw; (try dsimp only at hSw); go_simp; (try with_reducible rfl)
          try simp only [Act.put, List.setIfInBounds_toArray, List.set_cons_zero, List.set_cons_succ]
          have W1 : Hid (Blk X2 w.heap.size [.int .u64 r0, .int .u64 r1, .int .u64 r2, .int .u64 r3, .int .i64 t, .int .u64 en, .bool i, .int .u64 fa, .int .i64 fc, .int .u64 p0, .int .u64 p1, .int .u64 p2, .int .u64 p3] 28) := j1
          have W2 : Hid (Blk X2 bx [.int .u64 r0, .int .u64 r1, .int .u64 r2, .int .u64 r3, .int .i64 t, .int .u64 en, .bool i, .int .u64 fa, .int .i64 fc, .int .u64 p0, .int .u64 p1, .int .u64 p2, .int .u64 p3] 31) := j2
          have W3 : Hid (Below w.heap.size w X2) := j4
          clear j1 j2 j3 j4 j5 i3
          refine wpAnyH_done (by kernel_rfl) ?_ _
          refine NoPanic.normal ?_
          try go_wp2_with fail
          go_meet
          exact ⟨b7, b8, rfl, rfl, rfl, F2, Fb8, W1, W2, W3, ⟨P7.1.1, P7.1.2, P8.1.1, P8.1.2⟩⟩
        refine AllReadyH.cons (o := ⟨some 8, _, _, _, _, none⟩) rfl (fun K hK => ?_) AllReadyH.nil
        go_simp
        have NB4 : Hid (Below v1.heap.size v1 (v1.alloc (.cells #[.int .u64 0, .int .u64 0, .int .u64 0, .int .u64 0, .int .i64 0, .int .u64 0, .bool false, .int .u64 0, .int .i64 0, .int .u64 0, .int .u64 0, .int .u64 0, .int .u64 0] 31))) := Go.Joins.below_alloc1 _ _
        have n4 : Hid (Blk (v1.alloc (.cells #[.int .u64 0, .int .u64 0, .int .u64 0, .int .u64 0, .int .i64 0, .int .u64 0, .bool false, .int .u64 0, .int .i64 0, .int .u64 0, .int .u64 0, .int .u64 0, .int .u64 0] 31)) v1.heap.size [.int .u64 0, .int .u64 0, .int .u64 0, .int .u64 0, .int .i64 0, .int .u64 0, .bool false, .int .u64 0, .int .i64 0, .int .u64 0, .int .u64 0, .int .u64 0, .int .u64 0] 31) := Blk.made _ _ _
        have N4 : Hid ((v1.heap.size ≠ w.heap.size ∧ v1.heap.size ≠ bx) ∧ v1.heap.size ≠ bq ∧ w.heap.size ≤ v1.heap.size) := ⟨⟨by have := blk_lt hH1.1; omega, by have := blk_lt hH1.2.1; omega⟩, by have := hH1.2.2.2.2; omega, Below.size hH1.2.2.2.1⟩
        refine hK.out _ _ ⟨Blk.below hH1.1 NB4.out, Blk.below hH1.2.1 NB4.out, range_below hH1.2.2.1.out NB4.out hH1.2.2.2.2, below_then hH1.2.2.2.1 NB4.out, Nat.lt_of_lt_of_le hH1.2.2.2.2 (Below.size NB4.out)⟩ (fun hH4 => ?_)
        clear hK K hH1 NB4 
        try simp only [Act.put, List.setIfInBounds_toArray, List.set_cons_zero, List.set_cons_succ]
        generalize v1.alloc (.cells #[.int .u64 0, .int .u64 0, .int .u64 0, .int .u64 0, .int .i64 0, .int .u64 0, .bool false, .int .u64 0, .int .i64 0, .int .u64 0, .int .u64 0, .int .u64 0, .int .u64 0] 31) = v4 at hH4 n4  ⊢
        generalize v1.heap.size = b8 at n4 N4 ⊢
        have Qb8 : Hid _ := N4
        refine wpAnyH_ready (rs := [11]) (by kernel_rfl) (by simp) ?_
        refine AllReadyH.cons (o := ⟨some 7, _, _, _, _, none⟩) rfl (fun K hK => ?_) AllReadyH.nil
        go_simp
        have NB5 : Hid (Below v4.heap.size v4 (v4.alloc (.cells #[.int .u64 0, .int .u64 0, .int .u64 0, .int .u64 0, .int .i64 0, .int .u64 0, .bool false, .int .u64 0, .int .i64 0, .int .u64 0, .int .u64 0, .int .u64 0, .int .u64 0] 28))) := Go.Joins.below_alloc1 _ _
        have mb85 := Blk.below n4.out NB5.out
        have mb85 : Hid _ := mb85
        have n5 : Hid (Blk (v4.alloc (.cells #[.int .u64 0, .int .u64 0, .int .u64 0, .int .u64 0, .int .i64 0, .int .u64 0, .bool false, .int .u64 0, .int .i64 0, .int .u64 0, .int .u64 0, .int .u64 0, .int .u64 0] 28)) v4.heap.size [.int .u64 0, .int .u64 0, .int .u64 0, .int .u64 0, .int .i64 0, .int .u64 0, .bool false, .int .u64 0, .int .i64 0, .int .u64 0, .int .u64 0, .int .u64 0, .int .u64 0] 28) := Blk.made _ _ _
        have N5 : Hid ((v4.heap.size ≠ w.heap.size ∧ v4.heap.size ≠ bx) ∧ v4.heap.size ≠ bq ∧ w.heap.size ≤ v4.heap.size ∧ v4.heap.size ≠ b8) := ⟨⟨by have := blk_lt hH4.1; omega, by have := blk_lt hH4.2.1; omega⟩, by have := hH4.2.2.2.2; omega, Below.size hH4.2.2.2.1, by have := blk_lt n4.out; omega⟩
        refine hK.out _ _ ⟨Blk.below hH4.1 NB5.out, Blk.below hH4.2.1 NB5.out, range_below hH4.2.2.1.out NB5.out hH4.2.2.2.2, below_then hH4.2.2.2.1 NB5.out, Nat.lt_of_lt_of_le hH4.2.2.2.2 (Below.size NB5.out)⟩ (fun hH5 => ?_)
        clear hK K hH4 NB5 n4
        try simp only [Act.put, List.setIfInBounds_toArray, List.set_cons_zero, List.set_cons_succ]
        generalize v4.alloc (.cells #[.int .u64 0, .int .u64 0, .int .u64 0, .int .u64 0, .int .i64 0, .int .u64 0, .bool false, .int .u64 0, .int .i64 0, .int .u64 0, .int .u64 0, .int .u64 0, .int .u64 0] 28) = v5 at hH5 n5 mb85 ⊢
        generalize v4.heap.size = b7 at n5 N5 ⊢
        have Qb7 : Hid _ := N5
        have P7 := Qb7.out
        have P8 := Qb8.out
        obtain ⟨j1, j2, j3, j4, j5⟩ := hH5
        have i0 := (show (fun c => Blk c w.heap.size [.int .u64 r0, .int .u64 r1, .int .u64 r2, .int .u64 r3, .int .i64 t, .int .u64 en, .bool i, .int .u64 fa, .int .i64 fc, .int .u64 p0, .int .u64 p1, .int .u64 p2, .int .u64 p3] 28 ∧ Blk c bx [.int .u64 r0, .int .u64 r1, .int .u64 r2, .int .u64 r3, .int .i64 t, .int .u64 en, .bool i, .int .u64 fa, .int .i64 fc, .int .u64 p0, .int .u64 p1, .int .u64 p2, .int .u64 p3] 31 ∧ Hid (c.rangeAt bq (oq + k * 8) [.int .i64 kd, .int .i64 op, .int .i64 a, .int .i64 b, .int .i64 d, .int .u64 x, .int .u64 ga, .int .i64 gc]) ∧ Below w.heap.size w c ∧ bq < c.heap.size) v5 from ⟨j1, j2, j3, j4, j5⟩)
        refine wpAnyH_ready (rs := [13]) (by kernel_rfl) (by simp) ?_
        refine AllReadyH.cons (o := ⟨none, .store 28 (.tmp 7) (.tmp 32), _, _, _, none⟩) rfl (fun K hK => ?_) AllReadyH.nil
        refine wanted_mp rfl ?_
        have th : v5.there b7 0 13 := Blk.there n5.out
        refine wp_store_mid _ _ _ rfl b7 0 #[.int .u64 q0, .int .u64 q1, .int .u64 q2, .int .u64 q3, .int .i64 q4, .int .u64 q5, .bool q6, .int .u64 q7, .int .i64 q8, .int .u64 q9, .int .u64 q10, .int .u64 q11, .int .u64 q12] rfl rfl th st_info (by simp [Value.oneCell']) ?_
        refine hK.out _ _ ?_ (fun i1 => ?_)
        · exact ⟨Blk.scs j1 (by omega) _ 0, Blk.scs j2 (by omega) _ 0, World.rangeAt_setCells_apart j3.out _ 0 _ (Or.inl (by omega)), below_scs j4 (by omega) _ 0, by rw [size_scs]; exact j5⟩
        clear hK K i0 th
        try simp only [Act.put, List.setIfInBounds_toArray, List.set_cons_zero, List.set_cons_succ]
        simp only [List.toList_toArray] at i1 ⊢
        have Fb7 : Hid (Blk (v5.setCells b7 0 [.int .u64 q0, .int .u64 q1, .int .u64 q2, .int .u64 q3, .int .i64 q4, .int .u64 q5, .bool q6, .int .u64 q7, .int .i64 q8, .int .u64 q9, .int .u64 q10, .int .u64 q11, .int .u64 q12]) b7 [.int .u64 q0, .int .u64 q1, .int .u64 q2, .int .u64 q3, .int .i64 q4, .int .u64 q5, .bool q6, .int .u64 q7, .int .i64 q8, .int .u64 q9, .int .u64 q10, .int .u64 q11, .int .u64 q12] 28) := Blk.scsame n5.out _ 0
        have F2 := Blk.scs (c := b7) mb85.out (by omega) [.int .u64 q0, .int .u64 q1, .int .u64 q2, .int .u64 q3, .int .i64 q4, .int .u64 q5, .bool q6, .int .u64 q7, .int .i64 q8, .int .u64 q9, .int .u64 q10, .int .u64 q11, .int .u64 q12] 0
        have F2 : Hid _ := F2
        generalize v5.setCells b7 0 [.int .u64 q0, .int .u64 q1, .int .u64 q2, .int .u64 q3, .int .i64 q4, .int .u64 q5, .bool q6, .int .u64 q7, .int .i64 q8, .int .u64 q9, .int .u64 q10, .int .u64 q11, .int .u64 q12] = X1 at i1 Fb7 F2 ⊢
        clear j1 j2 j3 j4 j5 n5 mb85
        obtain ⟨j1, j2, j3, j4, j5⟩ := i1
        have G8 := F2
        clear F2
        have i2 := (show (fun c => Blk c w.heap.size [.int .u64 r0, .int .u64 r1, .int .u64 r2, .int .u64 r3, .int .i64 t, .int .u64 en, .bool i, .int .u64 fa, .int .i64 fc, .int .u64 p0, .int .u64 p1, .int .u64 p2, .int .u64 p3] 28 ∧ Blk c bx [.int .u64 r0, .int .u64 r1, .int .u64 r2, .int .u64 r3, .int .i64 t, .int .u64 en, .bool i, .int .u64 fa, .int .i64 fc, .int .u64 p0, .int .u64 p1, .int .u64 p2, .int .u64 p3] 31 ∧ Hid (c.rangeAt bq (oq + k * 8) [.int .i64 kd, .int .i64 op, .int .i64 a, .int .i64 b, .int .i64 d, .int .u64 x, .int .u64 ga, .int .i64 gc]) ∧ Below w.heap.size w c ∧ bq < c.heap.size) X1 from ⟨j1, j2, j3, j4, j5⟩)
        refine wpAnyH_ready (rs := [14]) (by kernel_rfl) (by simp) ?_
        refine AllReadyH.cons (o := ⟨none, .store 31 (.tmp 8) (.tmp 33), _, _, _, none⟩) rfl (fun K hK => ?_) AllReadyH.nil
        refine wanted_mp rfl ?_
        have th : X1.there b8 0 13 := Blk.there G8.out
        refine wp_store_mid _ _ _ rfl b8 0 #[.int .u64 q0, .int .u64 q1, .int .u64 q2, .int .u64 q3, .int .i64 q4, .int .u64 q5, .bool q6, .int .u64 q7, .int .i64 q8, .int .u64 q9, .int .u64 q10, .int .u64 q11, .int .u64 q12] rfl rfl th sx_info (by simp [Value.oneCell']) ?_
        refine hK.out _ _ ?_ (fun i3 => ?_)
        · exact ⟨Blk.scs j1 (by omega) _ 0, Blk.scs j2 (by omega) _ 0, World.rangeAt_setCells_apart j3.out _ 0 _ (Or.inl (by omega)), below_scs j4 (by omega) _ 0, by rw [size_scs]; exact j5⟩
        clear hK K i2 th
        try simp only [Act.put, List.setIfInBounds_toArray, List.set_cons_zero, List.set_cons_succ]
        simp only [List.toList_toArray] at i3 ⊢
        have Fb8 : Hid (Blk (X1.setCells b8 0 [.int .u64 q0, .int .u64 q1, .int .u64 q2, .int .u64 q3, .int .i64 q4, .int .u64 q5, .bool q6, .int .u64 q7, .int .i64 q8, .int .u64 q9, .int .u64 q10, .int .u64 q11, .int .u64 q12]) b8 [.int .u64 q0, .int .u64 q1, .int .u64 q2, .int .u64 q3, .int .i64 q4, .int .u64 q5, .bool q6, .int .u64 q7, .int .i64 q8, .int .u64 q9, .int .u64 q10, .int .u64 q11, .int .u64 q12] 31) := Blk.scsame G8.out _ 0
        have F2 := Blk.scs (c := b8) Fb7.out (by omega) [.int .u64 q0, .int .u64 q1, .int .u64 q2, .int .u64 q3, .int .i64 q4, .int .u64 q5, .bool q6, .int .u64 q7, .int .i64 q8, .int .u64 q9, .int .u64 q10, .int .u64 q11, .int .u64 q12] 0
        have F2 : Hid _ := F2
        generalize X1.setCells b8 0 [.int .u64 q0, .int .u64 q1, .int .u64 q2, .int .u64 q3, .int .i64 q4, .int .u64 q5, .bool q6, .int .u64 q7, .int .i64 q8, .int .u64 q9, .int .u64 q10, .int .u64 q11, .int .u64 q12] = X2 at i3 Fb8 F2 ⊢
        clear j1 j2 j3 j4 j5 G8 Fb7
        obtain ⟨j1, j2, j3, j4, j5⟩ := i3
        have i3 := (show (fun c => Blk c w.heap.size [.int .u64 r0, .int .u64 r1, .int .u64 r2, .int .u64 r3, .int .i64 t, .int .u64 en, .bool i, .int .u64 fa, .int .i64 fc, .int .u64 p0, .int .u64 p1, .int .u64 p2, .int .u64 p3] 28 ∧ Blk c bx [.int .u64 r0, .int .u64 r1, .int .u64 r2, .int .u64 r3, .int .i64 t, .int .u64 en, .bool i, .int .u64 fa, .int .i64 fc, .int .u64 p0, .int .u64 p1, .int .u64 p2, .int .u64 p3] 31 ∧ Hid (c.rangeAt bq (oq + k * 8) [.int .i64 kd, .int .i64 op, .int .i64 a, .int .i64 b, .int .i64 d, .int .u64 x, .int .u64 ga, .int .i64 gc]) ∧ Below w.heap.size w c ∧ bq < c.heap.size) X2 from ⟨j1, j2, j3, j4, j5⟩)
        refine wpAnyH_take (i := 15) (oi := ⟨some 9, _, _, _, _, none⟩) (v := ?_) rfl (by kernel_rfl) (by kernel_rfl) (by kernel_rfl) (fun _ _ _ h => h) (Or.inl ⟨by rfl, ?_⟩) (by assumption) ?_
        rotate_left
        · intro w hSw; (try dsimp only at hSw); go_simp; (try with_reducible rfl)
        try simp only [Act.put, List.setIfInBounds_toArray, List.set_cons_zero, List.set_cons_succ]
        have W1 : Hid (Blk X2 w.heap.size [.int .u64 r0, .int .u64 r1, .int .u64 r2, .int .u64 r3, .int .i64 t, .int .u64 en, .bool i, .int .u64 fa, .int .i64 fc, .int .u64 p0, .int .u64 p1, .int .u64 p2, .int .u64 p3] 28) := j1
        have W2 : Hid (Blk X2 bx [.int .u64 r0, .int .u64 r1, .int .u64 r2, .int .u64 r3, .int .i64 t, .int .u64 en, .bool i, .int .u64 fa, .int .i64 fc, .int .u64 p0, .int .u64 p1, .int .u64 p2, .int .u64 p3] 31) := j2
        have W3 : Hid (Below w.heap.size w X2) := j4
        clear j1 j2 j3 j4 j5 i3
        refine wpAnyH_done (by kernel_rfl) ?_ _
        refine NoPanic.normal ?_
        try go_wp2_with fail
        go_meet
        exact ⟨b7, b8, rfl, rfl, rfl, F2, Fb8, W1, W2, W3, ⟨P7.1.1, P7.1.2, P8.1.1, P8.1.2⟩⟩
      refine AllReadyH.cons (o := ⟨some 7, _, _, _, _, none⟩) rfl (fun K hK => ?_) ?_
      · go_simp
        have NB6 : Hid (Below v0.heap.size v0 (v0.alloc (.cells #[.int .u64 0, .int .u64 0, .int .u64 0, .int .u64 0, .int .i64 0, .int .u64 0, .bool false, .int .u64 0, .int .i64 0, .int .u64 0, .int .u64 0, .int .u64 0, .int .u64 0] 28))) := Go.Joins.below_alloc1 _ _
        have n6 : Hid (Blk (v0.alloc (.cells #[.int .u64 0, .int .u64 0, .int .u64 0, .int .u64 0, .int .i64 0, .int .u64 0, .bool false, .int .u64 0, .int .i64 0, .int .u64 0, .int .u64 0, .int .u64 0, .int .u64 0] 28)) v0.heap.size [.int .u64 0, .int .u64 0, .int .u64 0, .int .u64 0, .int .i64 0, .int .u64 0, .bool false, .int .u64 0, .int .i64 0, .int .u64 0, .int .u64 0, .int .u64 0, .int .u64 0] 28) := Blk.made _ _ _
        have N6 : Hid ((v0.heap.size ≠ w.heap.size ∧ v0.heap.size ≠ bx) ∧ v0.heap.size ≠ bq ∧ w.heap.size ≤ v0.heap.size) := ⟨⟨by have := blk_lt hH.1; omega, by have := blk_lt hH.2.1; omega⟩, by have := hH.2.2.2.2; omega, Below.size hH.2.2.2.1⟩
        refine hK.out _ _ ⟨Blk.below hH.1 NB6.out, Blk.below hH.2.1 NB6.out, range_below hH.2.2.1.out NB6.out hH.2.2.2.2, below_then hH.2.2.2.1 NB6.out, Nat.lt_of_lt_of_le hH.2.2.2.2 (Below.size NB6.out)⟩ (fun hH6 => ?_)
        clear hK K hH NB6 
        try simp only [Act.put, List.setIfInBounds_toArray, List.set_cons_zero, List.set_cons_succ]
        generalize v0.alloc (.cells #[.int .u64 0, .int .u64 0, .int .u64 0, .int .u64 0, .int .i64 0, .int .u64 0, .bool false, .int .u64 0, .int .i64 0, .int .u64 0, .int .u64 0, .int .u64 0, .int .u64 0] 28) = v6 at hH6 n6  ⊢
        generalize v0.heap.size = b7 at n6 N6 ⊢
        have Qb7 : Hid _ := N6
        refine wpAnyH_ready (rs := [6, 12]) (by kernel_rfl) (by simp) ?_
        refine AllReadyH.cons (o := ⟨some 31, _, _, _, _, none⟩) rfl (fun K hK => ?_) ?_
        · go_simp
          go_wp2_with (go_at_call 9; refine (CD.out _).mono ?_; rintro e v7 ⟨rfl, hb⟩)
          have mb77 : Hid (Blk v7 b7 [.int .u64 0, .int .u64 0, .int .u64 0, .int .u64 0, .int .i64 0, .int .u64 0, .bool false, .int .u64 0, .int .i64 0, .int .u64 0, .int .u64 0, .int .u64 0, .int .u64 0] 28) := Blk.below n6.out hb
          refine hK.out _ _ ⟨Blk.below hH6.1 hb, Blk.below hH6.2.1 hb, range_below hH6.2.2.1.out hb hH6.2.2.2.2, below_then hH6.2.2.2.1 hb, Nat.lt_of_lt_of_le hH6.2.2.2.2 (Below.size hb)⟩ (fun hH7 => ?_)
          clear hK K hb hH6 n6
          try simp only [Act.put, List.setIfInBounds_toArray, List.set_cons_zero, List.set_cons_succ]
          refine wpAnyH_take (i := 7) (oi := ⟨some 24, _, _, _, _, none⟩) (v := ?_) rfl (by kernel_rfl) (by kernel_rfl) (by kernel_rfl) (fun _ _ _ h => h) (Or.inl ⟨by rfl, ?_⟩) (by assumption) ?_
          rotate_left
          · intro w hSw; (try dsimp only at hSw); go_simp; (try with_reducible rfl)
          try simp only [Act.put, List.setIfInBounds_toArray, List.set_cons_zero, List.set_cons_succ]
          refine wpAnyH_take (i := 8) (oi := ⟨some 32, _, _, _, _, none⟩) (v := ?_) rfl (by kernel_rfl) (by kernel_rfl) (by kernel_rfl) (fun _ _ _ h => h) (Or.inl ⟨by rfl, ?_⟩) (by assumption) ?_
          rotate_left
          · intro w hSw; (try dsimp only at hSw); go_simp; (try with_reducible rfl)
          try simp only [Act.put, List.setIfInBounds_toArray, List.set_cons_zero, List.set_cons_succ]
          refine wpAnyH_take (i := 9) (oi := ⟨some 33, _, _, _, _, none⟩) (v := ?_) rfl (by kernel_rfl) (by kernel_rfl) (by kernel_rfl) (fun _ _ _ h => h) (Or.inl ⟨by rfl, ?_⟩) (by assumption) ?_
          rotate_left
          · intro w hSw; (try dsimp only at hSw); go_simp; (try with_reducible rfl)
          try simp only [Act.put, List.setIfInBounds_toArray, List.set_cons_zero, List.set_cons_succ]
          refine wpAnyH_take (i := 10) (oi := ⟨some 34, _, _, _, _, none⟩) (v := ?_) rfl (by kernel_rfl) (by kernel_rfl) (by kernel_rfl) (fun _ _ _ h => h) (Or.inl ⟨by rfl, ?_⟩) (by assumption) ?_
          rotate_left
          · intro w hSw; (try dsimp only at hSw); go_simp; (try with_reducible rfl)
          try simp only [Act.put, List.setIfInBounds_toArray, List.set_cons_zero, List.set_cons_succ]
          refine wpAnyH_ready (rs := [12]) (by kernel_rfl) (by simp) ?_
          refine AllReadyH.cons (o := ⟨some 8, _, _, _, _, none⟩) rfl (fun K hK => ?_) AllReadyH.nil
          go_simp
          have NB8 : Hid (Below v7.heap.size v7 (v7.alloc (.cells #[.int .u64 0, .int .u64 0, .int .u64 0, .int .u64 0, .int .i64 0, .int .u64 0, .bool false, .int .u64 0, .int .i64 0, .int .u64 0, .int .u64 0, .int .u64 0, .int .u64 0] 31))) := Go.Joins.below_alloc1 _ _
          have mb78 := Blk.below mb77.out NB8.out
          have mb78 : Hid _ := mb78
          have n8 : Hid (Blk (v7.alloc (.cells #[.int .u64 0, .int .u64 0, .int .u64 0, .int .u64 0, .int .i64 0, .int .u64 0, .bool false, .int .u64 0, .int .i64 0, .int .u64 0, .int .u64 0, .int .u64 0, .int .u64 0] 31)) v7.heap.size [.int .u64 0, .int .u64 0, .int .u64 0, .int .u64 0, .int .i64 0, .int .u64 0, .bool false, .int .u64 0, .int .i64 0, .int .u64 0, .int .u64 0, .int .u64 0, .int .u64 0] 31) := Blk.made _ _ _
          have N8 : Hid ((v7.heap.size ≠ w.heap.size ∧ v7.heap.size ≠ bx) ∧ v7.heap.size ≠ bq ∧ w.heap.size ≤ v7.heap.size ∧ v7.heap.size ≠ b7) := ⟨⟨by have := blk_lt hH7.1; omega, by have := blk_lt hH7.2.1; omega⟩, by have := hH7.2.2.2.2; omega, Below.size hH7.2.2.2.1, by have := blk_lt mb77.out; omega⟩
          refine hK.out _ _ ⟨Blk.below hH7.1 NB8.out, Blk.below hH7.2.1 NB8.out, range_below hH7.2.2.1.out NB8.out hH7.2.2.2.2, below_then hH7.2.2.2.1 NB8.out, Nat.lt_of_lt_of_le hH7.2.2.2.2 (Below.size NB8.out)⟩ (fun hH8 => ?_)
          clear hK K hH7 NB8 mb77
          try simp only [Act.put, List.setIfInBounds_toArray, List.set_cons_zero, List.set_cons_succ]
          generalize v7.alloc (.cells #[.int .u64 0, .int .u64 0, .int .u64 0, .int .u64 0, .int .i64 0, .int .u64 0, .bool false, .int .u64 0, .int .i64 0, .int .u64 0, .int .u64 0, .int .u64 0, .int .u64 0] 31) = v8 at hH8 n8 mb78 ⊢
          generalize v7.heap.size = b8 at n8 N8 ⊢
          have Qb8 : Hid _ := N8
          have P7 := Qb7.out
          have P8 := Qb8.out
          obtain ⟨j1, j2, j3, j4, j5⟩ := hH8
          have i0 := (show (fun c => Blk c w.heap.size [.int .u64 r0, .int .u64 r1, .int .u64 r2, .int .u64 r3, .int .i64 t, .int .u64 en, .bool i, .int .u64 fa, .int .i64 fc, .int .u64 p0, .int .u64 p1, .int .u64 p2, .int .u64 p3] 28 ∧ Blk c bx [.int .u64 r0, .int .u64 r1, .int .u64 r2, .int .u64 r3, .int .i64 t, .int .u64 en, .bool i, .int .u64 fa, .int .i64 fc, .int .u64 p0, .int .u64 p1, .int .u64 p2, .int .u64 p3] 31 ∧ Hid (c.rangeAt bq (oq + k * 8) [.int .i64 kd, .int .i64 op, .int .i64 a, .int .i64 b, .int .i64 d, .int .u64 x, .int .u64 ga, .int .i64 gc]) ∧ Below w.heap.size w c ∧ bq < c.heap.size) v8 from ⟨j1, j2, j3, j4, j5⟩)
          refine wpAnyH_ready (rs := [13]) (by kernel_rfl) (by simp) ?_
          refine AllReadyH.cons (o := ⟨none, .store 28 (.tmp 7) (.tmp 32), _, _, _, none⟩) rfl (fun K hK => ?_) AllReadyH.nil
          refine wanted_mp rfl ?_
          have th : v8.there b7 0 13 := Blk.there mb78.out
          refine wp_store_mid _ _ _ rfl b7 0 #[.int .u64 q0, .int .u64 q1, .int .u64 q2, .int .u64 q3, .int .i64 q4, .int .u64 q5, .bool q6, .int .u64 q7, .int .i64 q8, .int .u64 q9, .int .u64 q10, .int .u64 q11, .int .u64 q12] rfl rfl th st_info (by simp [Value.oneCell']) ?_
          refine hK.out _ _ ?_ (fun i1 => ?_)
          · exact ⟨Blk.scs j1 (by omega) _ 0, Blk.scs j2 (by omega) _ 0, World.rangeAt_setCells_apart j3.out _ 0 _ (Or.inl (by omega)), below_scs j4 (by omega) _ 0, by rw [size_scs]; exact j5⟩
          clear hK K i0 th
          try simp only [Act.put, List.setIfInBounds_toArray, List.set_cons_zero, List.set_cons_succ]
          simp only [List.toList_toArray] at i1 ⊢
          have Fb7 : Hid (Blk (v8.setCells b7 0 [.int .u64 q0, .int .u64 q1, .int .u64 q2, .int .u64 q3, .int .i64 q4, .int .u64 q5, .bool q6, .int .u64 q7, .int .i64 q8, .int .u64 q9, .int .u64 q10, .int .u64 q11, .int .u64 q12]) b7 [.int .u64 q0, .int .u64 q1, .int .u64 q2, .int .u64 q3, .int .i64 q4, .int .u64 q5, .bool q6, .int .u64 q7, .int .i64 q8, .int .u64 q9, .int .u64 q10, .int .u64 q11, .int .u64 q12] 28) := Blk.scsame mb78.out _ 0
          have F2 := Blk.scs (c := b7) n8.out (by omega) [.int .u64 q0, .int .u64 q1, .int .u64 q2, .int .u64 q3, .int .i64 q4, .int .u64 q5, .bool q6, .int .u64 q7, .int .i64 q8, .int .u64 q9, .int .u64 q10, .int .u64 q11, .int .u64 q12] 0
          have F2 : Hid _ := F2
          generalize v8.setCells b7 0 [.int .u64 q0, .int .u64 q1, .int .u64 q2, .int .u64 q3, .int .i64 q4, .int .u64 q5, .bool q6, .int .u64 q7, .int .i64 q8, .int .u64 q9, .int .u64 q10, .int .u64 q11, .int .u64 q12] = X1 at i1 Fb7 F2 ⊢
          clear j1 j2 j3 j4 j5 mb78 n8
          obtain ⟨j1, j2, j3, j4, j5⟩ := i1
          have G8 := F2
          clear F2
          have i2 := (show (fun c => Blk c w.heap.size [.int .u64 r0, .int .u64 r1, .int .u64 r2, .int .u64 r3, .int .i64 t, .int .u64 en, .bool i, .int .u64 fa, .int .i64 fc, .int .u64 p0, .int .u64 p1, .int .u64 p2, .int .u64 p3] 28 ∧ Blk c bx [.int .u64 r0, .int .u64 r1, .int .u64 r2, .int .u64 r3, .int .i64 t, .int .u64 en, .bool i, .int .u64 fa, .int .i64 fc, .int .u64 p0, .int .u64 p1, .int .u64 p2, .int .u64 p3] 31 ∧ Hid (c.rangeAt bq (oq + k * 8) [.int .i64 kd, .int .i64 op, .int .i64 a, .int .i64 b, .int .i64 d, .int .u64 x, .int .u64 ga, .int .i64 gc]) ∧ Below w.heap.size w c ∧ bq < c.heap.size) X1 from ⟨j1, j2, j3, j4, j5⟩)
          refine wpAnyH_ready (rs := [14]) (by kernel_rfl) (by simp) ?_
          refine AllReadyH.cons (o := ⟨none, .store 31 (.tmp 8) (.tmp 33), _, _, _, none⟩) rfl (fun K hK => ?_) AllReadyH.nil
          refine wanted_mp rfl ?_
          have th : X1.there b8 0 13 := Blk.there G8.out
          refine wp_store_mid _ _ _ rfl b8 0 #[.int .u64 q0, .int .u64 q1, .int .u64 q2, .int .u64 q3, .int .i64 q4, .int .u64 q5, .bool q6, .int .u64 q7, .int .i64 q8, .int .u64 q9, .int .u64 q10, .int .u64 q11, .int .u64 q12] rfl rfl th sx_info (by simp [Value.oneCell']) ?_
          refine hK.out _ _ ?_ (fun i3 => ?_)
          · exact ⟨Blk.scs j1 (by omega) _ 0, Blk.scs j2 (by omega) _ 0, World.rangeAt_setCells_apart j3.out _ 0 _ (Or.inl (by omega)), below_scs j4 (by omega) _ 0, by rw [size_scs]; exact j5⟩
          clear hK K i2 th
          try simp only [Act.put, List.setIfInBounds_toArray, List.set_cons_zero, List.set_cons_succ]
          simp only [List.toList_toArray] at i3 ⊢
          have Fb8 : Hid (Blk (X1.setCells b8 0 [.int .u64 q0, .int .u64 q1, .int .u64 q2, .int .u64 q3, .int .i64 q4, .int .u64 q5, .bool q6, .int .u64 q7, .int .i64 q8, .int .u64 q9, .int .u64 q10, .int .u64 q11, .int .u64 q12]) b8 [.int .u64 q0, .int .u64 q1, .int .u64 q2, .int .u64 q3, .int .i64 q4, .int .u64 q5, .bool q6, .int .u64 q7, .int .i64 q8, .int .u64 q9, .int .u64 q10, .int .u64 q11, .int .u64 q12] 31) := Blk.scsame G8.out _ 0
          have F2 := Blk.scs (c := b8) Fb7.out (by omega) [.int .u64 q0, .int .u64 q1, .int .u64 q2, .int .u64 q3, .int .i64 q4, .int .u64 q5, .bool q6, .int .u64 q7, .int .i64 q8, .int .u64 q9, .int .u64 q10, .int .u64 q11, .int .u64 q12] 0
          have F2 : Hid _ := F2
          generalize X1.setCells b8 0 [.int .u64 q0, .int .u64 q1, .int .u64 q2, .int .u64 q3, .int .i64 q4, .int .u64 q5, .bool q6, .int .u64 q7, .int .i64 q8, .int .u64 q9, .int .u64 q10, .int .u64 q11, .int .u64 q12] = X2 at i3 Fb8 F2 ⊢
          clear j1 j2 j3 j4 j5 G8 Fb7
          obtain ⟨j1, j2, j3, j4, j5⟩ := i3
          have i3 := (show (fun c => Blk c w.heap.size [.int .u64 r0, .int .u64 r1, .int .u64 r2, .int .u64 r3, .int .i64 t, .int .u64 en, .bool i, .int .u64 fa, .int .i64 fc, .int .u64 p0, .int .u64 p1, .int .u64 p2, .int .u64 p3] 28 ∧ Blk c bx [.int .u64 r0, .int .u64 r1, .int .u64 r2, .int .u64 r3, .int .i64 t, .int .u64 en, .bool i, .int .u64 fa, .int .i64 fc, .int .u64 p0, .int .u64 p1, .int .u64 p2, .int .u64 p3] 31 ∧ Hid (c.rangeAt bq (oq + k * 8) [.int .i64 kd, .int .i64 op, .int .i64 a, .int .i64 b, .int .i64 d, .int .u64 x, .int .u64 ga, .int .i64 gc]) ∧ Below w.heap.size w c ∧ bq < c.heap.size) X2 from ⟨j1, j2, j3, j4, j5⟩)
          refine wpAnyH_take (i := 15) (oi := ⟨some 9, _, _, _, _, none⟩) (v := ?_) rfl (by kernel_rfl) (by kernel_rfl) (by kernel_rfl) (fun _ _ _ h => h) (Or.inl ⟨by rfl, ?_⟩) (by assumption) ?_
          rotate_left
          · intro w hSw; (try dsimp only at hSw); go_simp; (try with_reducible rfl)
          try simp only [Act.put, List.setIfInBounds_toArray, List.set_cons_zero, List.set_cons_succ]
          have W1 : Hid (Blk X2 w.heap.size [.int .u64 r0, .int .u64 r1, .int .u64 r2, .int .u64 r3, .int .i64 t, .int .u64 en, .bool i, .int .u64 fa, .int .i64 fc, .int .u64 p0, .int .u64 p1, .int .u64 p2, .int .u64 p3] 28) := j1
          have W2 : Hid (Blk X2 bx [.int .u64 r0, .int .u64 r1, .int .u64 r2, .int .u64 r3, .int .i64 t, .int .u64 en, .bool i, .int .u64 fa, .int .i64 fc, .int .u64 p0, .int .u64 p1, .int .u64 p2, .int .u64 p3] 31) := j2
          have W3 : Hid (Below w.heap.size w X2) := j4
          clear j1 j2 j3 j4 j5 i3
          refine wpAnyH_done (by kernel_rfl) ?_ _
          refine NoPanic.normal ?_
          try go_wp2_with fail
          go_meet
          exact ⟨b7, b8, rfl, rfl, rfl, F2, Fb8, W1, W2, W3, ⟨P7.1.1, P7.1.2, P8.1.1, P8.1.2⟩⟩
        refine AllReadyH.cons (o := ⟨some 8, _, _, _, _, none⟩) rfl (fun K hK => ?_) AllReadyH.nil
        go_simp
        have NB9 : Hid (Below v6.heap.size v6 (v6.alloc (.cells #[.int .u64 0, .int .u64 0, .int .u64 0, .int .u64 0, .int .i64 0, .int .u64 0, .bool false, .int .u64 0, .int .i64 0, .int .u64 0, .int .u64 0, .int .u64 0, .int .u64 0] 31))) := Go.Joins.below_alloc1 _ _
        have mb79 := Blk.below n6.out NB9.out
        have mb79 : Hid _ := mb79
        have n9 : Hid (Blk (v6.alloc (.cells #[.int .u64 0, .int .u64 0, .int .u64 0, .int .u64 0, .int .i64 0, .int .u64 0, .bool false, .int .u64 0, .int .i64 0, .int .u64 0, .int .u64 0, .int .u64 0, .int .u64 0] 31)) v6.heap.size [.int .u64 0, .int .u64 0, .int .u64 0, .int .u64 0, .int .i64 0, .int .u64 0, .bool false, .int .u64 0, .int .i64 0, .int .u64 0, .int .u64 0, .int .u64 0, .int .u64 0] 31) := Blk.made _ _ _
        have N9 : Hid ((v6.heap.size ≠ w.heap.size ∧ v6.heap.size ≠ bx) ∧ v6.heap.size ≠ bq ∧ w.heap.size ≤ v6.heap.size ∧ v6.heap.size ≠ b7) := ⟨⟨by have := blk_lt hH6.1; omega, by have := blk_lt hH6.2.1; omega⟩, by have := hH6.2.2.2.2; omega, Below.size hH6.2.2.2.1, by have := blk_lt n6.out; omega⟩
        refine hK.out _ _ ⟨Blk.below hH6.1 NB9.out, Blk.below hH6.2.1 NB9.out, range_below hH6.2.2.1.out NB9.out hH6.2.2.2.2, below_then hH6.2.2.2.1 NB9.out, Nat.lt_of_lt_of_le hH6.2.2.2.2 (Below.size NB9.out)⟩ (fun hH9 => ?_)
        clear hK K hH6 NB9 n6
        try simp only [Act.put, List.setIfInBounds_toArray, List.set_cons_zero, List.set_cons_succ]
        generalize v6.alloc (.cells #[.int .u64 0, .int .u64 0, .int .u64 0, .int .u64 0, .int .i64 0, .int .u64 0, .bool false, .int .u64 0, .int .i64 0, .int .u64 0, .int .u64 0, .int .u64 0, .int .u64 0] 31) = v9 at hH9 n9 mb79 ⊢
        generalize v6.heap.size = b8 at n9 N9 ⊢
        have Qb8 : Hid _ := N9
        refine wpAnyH_ready (rs := [6]) (by kernel_rfl) (by simp) ?_
        refine AllReadyH.cons (o := ⟨some 31, _, _, _, _, none⟩) rfl (fun K hK => ?_) AllReadyH.nil
        go_simp
        go_wp2_with (go_at_call 9; refine (CD.out _).mono ?_; rintro e v10 ⟨rfl, hb⟩)
        have mb710 : Hid (Blk v10 b7 [.int .u64 0, .int .u64 0, .int .u64 0, .int .u64 0, .int .i64 0, .int .u64 0, .bool false, .int .u64 0, .int .i64 0, .int .u64 0, .int .u64 0, .int .u64 0, .int .u64 0] 28) := Blk.below mb79.out hb
        have mb810 : Hid (Blk v10 b8 [.int .u64 0, .int .u64 0, .int .u64 0, .int .u64 0, .int .i64 0, .int .u64 0, .bool false, .int .u64 0, .int .i64 0, .int .u64 0, .int .u64 0, .int .u64 0, .int .u64 0] 31) := Blk.below n9.out hb
        refine hK.out _ _ ⟨Blk.below hH9.1 hb, Blk.below hH9.2.1 hb, range_below hH9.2.2.1.out hb hH9.2.2.2.2, below_then hH9.2.2.2.1 hb, Nat.lt_of_lt_of_le hH9.2.2.2.2 (Below.size hb)⟩ (fun hH10 => ?_)
        clear hK K hb hH9 mb79 n9
        try simp only [Act.put, List.setIfInBounds_toArray, List.set_cons_zero, List.set_cons_succ]
        refine wpAnyH_take (i := 7) (oi := ⟨some 24, _, _, _, _, none⟩) (v := ?_) rfl (by kernel_rfl) (by kernel_rfl) (by kernel_rfl) (fun _ _ _ h => h) (Or.inl ⟨by rfl, ?_⟩) (by assumption) ?_
        rotate_left
        · intro w hSw; (try dsimp only at hSw); go_simp; (try with_reducible rfl)
        try simp only [Act.put, List.setIfInBounds_toArray, List.set_cons_zero, List.set_cons_succ]
        refine wpAnyH_take (i := 8) (oi := ⟨some 32, _, _, _, _, none⟩) (v := ?_) rfl (by kernel_rfl) (by kernel_rfl) (by kernel_rfl) (fun _ _ _ h => h) (Or.inl ⟨by rfl, ?_⟩) (by assumption) ?_
        rotate_left
        · intro w hSw; (try dsimp only at hSw); go_simp; (try with_reducible rfl)
        try simp only [Act.put, List.setIfInBounds_toArray, List.set_cons_zero, List.set_cons_succ]
        refine wpAnyH_take (i := 9) (oi := ⟨some 33, _, _, _, _, none⟩) (v := ?_) rfl (by kernel_rfl) (by kernel_rfl) (by kernel_rfl) (fun _ _ _ h => h) (Or.inl ⟨by rfl, ?_⟩) (by assumption) ?_
        rotate_left
        · intro w hSw; (try dsimp only at hSw); go_simp; (try with_reducible rfl)
        try simp only [Act.put, List.setIfInBounds_toArray, List.set_cons_zero, List.set_cons_succ]
        refine wpAnyH_take (i := 10) (oi := ⟨some 34, _, _, _, _, none⟩) (v := ?_) rfl (by kernel_rfl) (by kernel_rfl) (by kernel_rfl) (fun _ _ _ h => h) (Or.inl ⟨by rfl, ?_⟩) (by assumption) ?_
        rotate_left
        · intro w hSw; (try dsimp only at hSw); go_simp; (try with_reducible rfl)
        try simp only [Act.put, List.setIfInBounds_toArray, List.set_cons_zero, List.set_cons_succ]
        have P7 := Qb7.out
        have P8 := Qb8.out
        obtain ⟨j1, j2, j3, j4, j5⟩ := hH10
        have i0 := (show (fun c => Blk c w.heap.size [.int .u64 r0, .int .u64 r1, .int .u64 r2, .int .u64 r3, .int .i64 t, .int .u64 en, .bool i, .int .u64 fa, .int .i64 fc, .int .u64 p0, .int .u64 p1, .int .u64 p2, .int .u64 p3] 28 ∧ Blk c bx [.int .u64 r0, .int .u64 r1, .int .u64 r2, .int .u64 r3, .int .i64 t, .int .u64 en, .bool i, .int .u64 fa, .int .i64 fc, .int .u64 p0, .int .u64 p1, .int .u64 p2, .int .u64 p3] 31 ∧ Hid (c.rangeAt bq (oq + k * 8) [.int .i64 kd, .int .i64 op, .int .i64 a, .int .i64 b, .int .i64 d, .int .u64 x, .int .u64 ga, .int .i64 gc]) ∧ Below w.heap.size w c ∧ bq < c.heap.size) v10 from ⟨j1, j2, j3, j4, j5⟩)
        refine wpAnyH_ready (rs := [13]) (by kernel_rfl) (by simp) ?_
        refine AllReadyH.cons (o := ⟨none, .store 28 (.tmp 7) (.tmp 32), _, _, _, none⟩) rfl (fun K hK => ?_) AllReadyH.nil
        refine wanted_mp rfl ?_
        have th : v10.there b7 0 13 := Blk.there mb710.out
        refine wp_store_mid _ _ _ rfl b7 0 #[.int .u64 q0, .int .u64 q1, .int .u64 q2, .int .u64 q3, .int .i64 q4, .int .u64 q5, .bool q6, .int .u64 q7, .int .i64 q8, .int .u64 q9, .int .u64 q10, .int .u64 q11, .int .u64 q12] rfl rfl th st_info (by simp [Value.oneCell']) ?_
        refine hK.out _ _ ?_ (fun i1 => ?_)
        · exact ⟨Blk.scs j1 (by omega) _ 0, Blk.scs j2 (by omega) _ 0, World.rangeAt_setCells_apart j3.out _ 0 _ (Or.inl (by omega)), below_scs j4 (by omega) _ 0, by rw [size_scs]; exact j5⟩
        clear hK K i0 th
        try simp only [Act.put, List.setIfInBounds_toArray, List.set_cons_zero, List.set_cons_succ]
        simp only [List.toList_toArray] at i1 ⊢
        have Fb7 : Hid (Blk (v10.setCells b7 0 [.int .u64 q0, .int .u64 q1, .int .u64 q2, .int .u64 q3, .int .i64 q4, .int .u64 q5, .bool q6, .int .u64 q7, .int .i64 q8, .int .u64 q9, .int .u64 q10, .int .u64 q11, .int .u64 q12]) b7 [.int .u64 q0, .int .u64 q1, .int .u64 q2, .int .u64 q3, .int .i64 q4, .int .u64 q5, .bool q6, .int .u64 q7, .int .i64 q8, .int .u64 q9, .int .u64 q10, .int .u64 q11, .int .u64 q12] 28) := Blk.scsame mb710.out _ 0
        have F2 := Blk.scs (c := b7) mb810.out (by omega) [.int .u64 q0, .int .u64 q1, .int .u64 q2, .int .u64 q3, .int .i64 q4, .int .u64 q5, .bool q6, .int .u64 q7, .int .i64 q8, .int .u64 q9, .int .u64 q10, .int .u64 q11, .int .u64 q12] 0
        have F2 : Hid _ := F2
        generalize v10.setCells b7 0 [.int .u64 q0, .int .u64 q1, .int .u64 q2, .int .u64 q3, .int .i64 q4, .int .u64 q5, .bool q6, .int .u64 q7, .int .i64 q8, .int .u64 q9, .int .u64 q10, .int .u64 q11, .int .u64 q12] = X1 at i1 Fb7 F2 ⊢
        clear j1 j2 j3 j4 j5 mb710 mb810
        obtain ⟨j1, j2, j3, j4, j5⟩ := i1
        have G8 := F2
        clear F2
        have i2 := (show (fun c => Blk c w.heap.size [.int .u64 r0, .int .u64 r1, .int .u64 r2, .int .u64 r3, .int .i64 t, .int .u64 en, .bool i, .int .u64 fa, .int .i64 fc, .int .u64 p0, .int .u64 p1, .int .u64 p2, .int .u64 p3] 28 ∧ Blk c bx [.int .u64 r0, .int .u64 r1, .int .u64 r2, .int .u64 r3, .int .i64 t, .int .u64 en, .bool i, .int .u64 fa, .int .i64 fc, .int .u64 p0, .int .u64 p1, .int .u64 p2, .int .u64 p3] 31 ∧ Hid (c.rangeAt bq (oq + k * 8) [.int .i64 kd, .int .i64 op, .int .i64 a, .int .i64 b, .int .i64 d, .int .u64 x, .int .u64 ga, .int .i64 gc]) ∧ Below w.heap.size w c ∧ bq < c.heap.size) X1 from ⟨j1, j2, j3, j4, j5⟩)
        refine wpAnyH_ready (rs := [14]) (by kernel_rfl) (by simp) ?_
        refine AllReadyH.cons (o := ⟨none, .store 31 (.tmp 8) (.tmp 33), _, _, _, none⟩) rfl (fun K hK => ?_) AllReadyH.nil
        refine wanted_mp rfl ?_
        have th : X1.there b8 0 13 := Blk.there G8.out
        refine wp_store_mid _ _ _ rfl b8 0 #[.int .u64 q0, .int .u64 q1, .int .u64 q2, .int .u64 q3, .int .i64 q4, .int .u64 q5, .bool q6, .int .u64 q7, .int .i64 q8, .int .u64 q9, .int .u64 q10, .int .u64 q11, .int .u64 q12] rfl rfl th sx_info (by simp [Value.oneCell']) ?_
        refine hK.out _ _ ?_ (fun i3 => ?_)
        · exact ⟨Blk.scs j1 (by omega) _ 0, Blk.scs j2 (by omega) _ 0, World.rangeAt_setCells_apart j3.out _ 0 _ (Or.inl (by omega)), below_scs j4 (by omega) _ 0, by rw [size_scs]; exact j5⟩
        clear hK K i2 th
        try simp only [Act.put, List.setIfInBounds_toArray, List.set_cons_zero, List.set_cons_succ]
        simp only [List.toList_toArray] at i3 ⊢
        have Fb8 : Hid (Blk (X1.setCells b8 0 [.int .u64 q0, .int .u64 q1, .int .u64 q2, .int .u64 q3, .int .i64 q4, .int .u64 q5, .bool q6, .int .u64 q7, .int .i64 q8, .int .u64 q9, .int .u64 q10, .int .u64 q11, .int .u64 q12]) b8 [.int .u64 q0, .int .u64 q1, .int .u64 q2, .int .u64 q3, .int .i64 q4, .int .u64 q5, .bool q6, .int .u64 q7, .int .i64 q8, .int .u64 q9, .int .u64 q10, .int .u64 q11, .int .u64 q12] 31) := Blk.scsame G8.out _ 0
        have F2 := Blk.scs (c := b8) Fb7.out (by omega) [.int .u64 q0, .int .u64 q1, .int .u64 q2, .int .u64 q3, .int .i64 q4, .int .u64 q5, .bool q6, .int .u64 q7, .int .i64 q8, .int .u64 q9, .int .u64 q10, .int .u64 q11, .int .u64 q12] 0
        have F2 : Hid _ := F2
        generalize X1.setCells b8 0 [.int .u64 q0, .int .u64 q1, .int .u64 q2, .int .u64 q3, .int .i64 q4, .int .u64 q5, .bool q6, .int .u64 q7, .int .i64 q8, .int .u64 q9, .int .u64 q10, .int .u64 q11, .int .u64 q12] = X2 at i3 Fb8 F2 ⊢
        clear j1 j2 j3 j4 j5 G8 Fb7
        obtain ⟨j1, j2, j3, j4, j5⟩ := i3
        have i3 := (show (fun c => Blk c w.heap.size [.int .u64 r0, .int .u64 r1, .int .u64 r2, .int .u64 r3, .int .i64 t, .int .u64 en, .bool i, .int .u64 fa, .int .i64 fc, .int .u64 p0, .int .u64 p1, .int .u64 p2, .int .u64 p3] 28 ∧ Blk c bx [.int .u64 r0, .int .u64 r1, .int .u64 r2, .int .u64 r3, .int .i64 t, .int .u64 en, .bool i, .int .u64 fa, .int .i64 fc, .int .u64 p0, .int .u64 p1, .int .u64 p2, .int .u64 p3] 31 ∧ Hid (c.rangeAt bq (oq + k * 8) [.int .i64 kd, .int .i64 op, .int .i64 a, .int .i64 b, .int .i64 d, .int .u64 x, .int .u64 ga, .int .i64 gc]) ∧ Below w.heap.size w c ∧ bq < c.heap.size) X2 from ⟨j1, j2, j3, j4, j5⟩)
        refine wpAnyH_take (i := 15) (oi := ⟨some 9, _, _, _, _, none⟩) (v := ?_) rfl (by kernel_rfl) (by kernel_rfl) (by kernel_rfl) (fun _ _ _ h => h) (Or.inl ⟨by rfl, ?_⟩) (by assumption) ?_
        rotate_left
        · intro w hSw; (try dsimp only at hSw); go_simp; (try with_reducible rfl)
        try simp only [Act.put, List.setIfInBounds_toArray, List.set_cons_zero, List.set_cons_succ]
        have W1 : Hid (Blk X2 w.heap.size [.int .u64 r0, .int .u64 r1, .int .u64 r2, .int .u64 r3, .int .i64 t, .int .u64 en, .bool i, .int .u64 fa, .int .i64 fc, .int .u64 p0, .int .u64 p1, .int .u64 p2, .int .u64 p3] 28) := j1
        have W2 : Hid (Blk X2 bx [.int .u64 r0, .int .u64 r1, .int .u64 r2, .int .u64 r3, .int .i64 t, .int .u64 en, .bool i, .int .u64 fa, .int .i64 fc, .int .u64 p0, .int .u64 p1, .int .u64 p2, .int .u64 p3] 31) := j2
        have W3 : Hid (Below w.heap.size w X2) := j4
        clear j1 j2 j3 j4 j5 i3
        refine wpAnyH_done (by kernel_rfl) ?_ _
        refine NoPanic.normal ?_
        try go_wp2_with fail
        go_meet
        exact ⟨b7, b8, rfl, rfl, rfl, F2, Fb8, W1, W2, W3, ⟨P7.1.1, P7.1.2, P8.1.1, P8.1.2⟩⟩
      refine AllReadyH.cons (o := ⟨some 8, _, _, _, _, none⟩) rfl (fun K hK => ?_) AllReadyH.nil
      go_simp
      have NB11 : Hid (Below v0.heap.size v0 (v0.alloc (.cells #[.int .u64 0, .int .u64 0, .int .u64 0, .int .u64 0, .int .i64 0, .int .u64 0, .bool false, .int .u64 0, .int .i64 0, .int .u64 0, .int .u64 0, .int .u64 0, .int .u64 0] 31))) := Go.Joins.below_alloc1 _ _
      have n11 : Hid (Blk (v0.alloc (.cells #[.int .u64 0, .int .u64 0, .int .u64 0, .int .u64 0, .int .i64 0, .int .u64 0, .bool false, .int .u64 0, .int .i64 0, .int .u64 0, .int .u64 0, .int .u64 0, .int .u64 0] 31)) v0.heap.size [.int .u64 0, .int .u64 0, .int .u64 0, .int .u64 0, .int .i64 0, .int .u64 0, .bool false, .int .u64 0, .int .i64 0, .int .u64 0, .int .u64 0, .int .u64 0, .int .u64 0] 31) := Blk.made _ _ _
      have N11 : Hid ((v0.heap.size ≠ w.heap.size ∧ v0.heap.size ≠ bx) ∧ v0.heap.size ≠ bq ∧ w.heap.size ≤ v0.heap.size) := ⟨⟨by have := blk_lt hH.1; omega, by have := blk_lt hH.2.1; omega⟩, by have := hH.2.2.2.2; omega, Below.size hH.2.2.2.1⟩
      refine hK.out _ _ ⟨Blk.below hH.1 NB11.out, Blk.below hH.2.1 NB11.out, range_below hH.2.2.1.out NB11.out hH.2.2.2.2, below_then hH.2.2.2.1 NB11.out, Nat.lt_of_lt_of_le hH.2.2.2.2 (Below.size NB11.out)⟩ (fun hH11 => ?_)
      clear hK K hH NB11 
      try simp only [Act.put, List.setIfInBounds_toArray, List.set_cons_zero, List.set_cons_succ]
      generalize v0.alloc (.cells #[.int .u64 0, .int .u64 0, .int .u64 0, .int .u64 0, .int .i64 0, .int .u64 0, .bool false, .int .u64 0, .int .i64 0, .int .u64 0, .int .u64 0, .int .u64 0, .int .u64 0] 31) = v11 at hH11 n11  ⊢
      generalize v0.heap.size = b8 at n11 N11 ⊢
      have Qb8 : Hid _ := N11
      refine wpAnyH_ready (rs := [6, 11]) (by kernel_rfl) (by simp) ?_
      refine AllReadyH.cons (o := ⟨some 31, _, _, _, _, none⟩) rfl (fun K hK => ?_) ?_
      · go_simp
        go_wp2_with (go_at_call 9; refine (CD.out _).mono ?_; rintro e v12 ⟨rfl, hb⟩)
        have mb812 : Hid (Blk v12 b8 [.int .u64 0, .int .u64 0, .int .u64 0, .int .u64 0, .int .i64 0, .int .u64 0, .bool false, .int .u64 0, .int .i64 0, .int .u64 0, .int .u64 0, .int .u64 0, .int .u64 0] 31) := Blk.below n11.out hb
        refine hK.out _ _ ⟨Blk.below hH11.1 hb, Blk.below hH11.2.1 hb, range_below hH11.2.2.1.out hb hH11.2.2.2.2, below_then hH11.2.2.2.1 hb, Nat.lt_of_lt_of_le hH11.2.2.2.2 (Below.size hb)⟩ (fun hH12 => ?_)
        clear hK K hb hH11 n11
        try simp only [Act.put, List.setIfInBounds_toArray, List.set_cons_zero, List.set_cons_succ]
        refine wpAnyH_take (i := 7) (oi := ⟨some 24, _, _, _, _, none⟩) (v := ?_) rfl (by kernel_rfl) (by kernel_rfl) (by kernel_rfl) (fun _ _ _ h => h) (Or.inl ⟨by rfl, ?_⟩) (by assumption) ?_
        rotate_left
        · intro w hSw; (try dsimp only at hSw); go_simp; (try with_reducible rfl)
        try simp only [Act.put, List.setIfInBounds_toArray, List.set_cons_zero, List.set_cons_succ]
        refine wpAnyH_take (i := 8) (oi := ⟨some 32, _, _, _, _, none⟩) (v := ?_) rfl (by kernel_rfl) (by kernel_rfl) (by kernel_rfl) (fun _ _ _ h => h) (Or.inl ⟨by rfl, ?_⟩) (by assumption) ?_
        rotate_left
        · intro w hSw; (try dsimp only at hSw); go_simp; (try with_reducible rfl)
        try simp only [Act.put, List.setIfInBounds_toArray, List.set_cons_zero, List.set_cons_succ]
        refine wpAnyH_take (i := 9) (oi := ⟨some 33, _, _, _, _, none⟩) (v := ?_) rfl (by kernel_rfl) (by kernel_rfl) (by kernel_rfl) (fun _ _ _ h => h) (Or.inl ⟨by rfl, ?_⟩) (by assumption) ?_
        rotate_left
        · intro w hSw; (try dsimp only at hSw); go_simp; (try with_reducible rfl)
        try simp only [Act.put, List.setIfInBounds_toArray, List.set_cons_zero, List.set_cons_succ]
        refine wpAnyH_take (i := 10) (oi := ⟨some 34, _, _, _, _, none⟩) (v := ?_) rfl (by kernel_rfl) (by kernel_rfl) (by kernel_rfl) (fun _ _ _ h => h) (Or.inl ⟨by rfl, ?_⟩) (by assumption) ?_
        rotate_left
        · intro w hSw; (try dsimp only at hSw); go_simp; (try with_reducible rfl)
        try simp only [Act.put, List.setIfInBounds_toArray, List.set_cons_zero, List.set_cons_succ]
        refine wpAnyH_ready (rs := [11]) (by kernel_rfl) (by simp) ?_
        refine AllReadyH.cons (o := ⟨some 7, _, _, _, _, none⟩) rfl (fun K hK => ?_) AllReadyH.nil
        go_simp
        have NB13 : Hid (Below v12.heap.size v12 (v12.alloc (.cells #[.int .u64 0, .int .u64 0, .int .u64 0, .int .u64 0, .int .i64 0, .int .u64 0, .bool false, .int .u64 0, .int .i64 0, .int .u64 0, .int .u64 0, .int .u64 0, .int .u64 0] 28))) := Go.Joins.below_alloc1 _ _
        have mb813 := Blk.below mb812.out NB13.out
        have mb813 : Hid _ := mb813
        have n13 : Hid (Blk (v12.alloc (.cells #[.int .u64 0, .int .u64 0, .int .u64 0, .int .u64 0, .int .i64 0, .int .u64 0, .bool false, .int .u64 0, .int .i64 0, .int .u64 0, .int .u64 0, .int .u64 0, .int .u64 0] 28)) v12.heap.size [.int .u64 0, .int .u64 0, .int .u64 0, .int .u64 0, .int .i64 0, .int .u64 0, .bool false, .int .u64 0, .int .i64 0, .int .u64 0, .int .u64 0, .int .u64 0, .int .u64 0] 28) := Blk.made _ _ _
        have N13 : Hid ((v12.heap.size ≠ w.heap.size ∧ v12.heap.size ≠ bx) ∧ v12.heap.size ≠ bq ∧ w.heap.size ≤ v12.heap.size ∧ v12.heap.size ≠ b8) := ⟨⟨by have := blk_lt hH12.1; omega, by have := blk_lt hH12.2.1; omega⟩, by have := hH12.2.2.2.2; omega, Below.size hH12.2.2.2.1, by have := blk_lt mb812.out; omega⟩
        refine hK.out _ _ ⟨Blk.below hH12.1 NB13.out, Blk.below hH12.2.1 NB13.out, range_below hH12.2.2.1.out NB13.out hH12.2.2.2.2, below_then hH12.2.2.2.1 NB13.out, Nat.lt_of_lt_of_le hH12.2.2.2.2 (Below.size NB13.out)⟩ (fun hH13 => ?_)
        clear hK K hH12 NB13 mb812
        try simp only [Act.put, List.setIfInBounds_toArray, List.set_cons_zero, List.set_cons_succ]
        generalize v12.alloc (.cells #[.int .u64 0, .int .u64 0, .int .u64 0, .int .u64 0, .int .i64 0, .int .u64 0, .bool false, .int .u64 0, .int .i64 0, .int .u64 0, .int .u64 0, .int .u64 0, .int .u64 0] 28) = v13 at hH13 n13 mb813 ⊢
        generalize v12.heap.size = b7 at n13 N13 ⊢
        have Qb7 : Hid _ := N13
        have P7 := Qb7.out
        have P8 := Qb8.out
        obtain ⟨j1, j2, j3, j4, j5⟩ := hH13
        have i0 := (show (fun c => Blk c w.heap.size [.int .u64 r0, .int .u64 r1, .int .u64 r2, .int .u64 r3, .int .i64 t, .int .u64 en, .bool i, .int .u64 fa, .int .i64 fc, .int .u64 p0, .int .u64 p1, .int .u64 p2, .int .u64 p3] 28 ∧ Blk c bx [.int .u64 r0, .int .u64 r1, .int .u64 r2, .int .u64 r3, .int .i64 t, .int .u64 en, .bool i, .int .u64 fa, .int .i64 fc, .int .u64 p0, .int .u64 p1, .int .u64 p2, .int .u64 p3] 31 ∧ Hid (c.rangeAt bq (oq + k * 8) [.int .i64 kd, .int .i64 op, .int .i64 a, .int .i64 b, .int .i64 d, .int .u64 x, .int .u64 ga, .int .i64 gc]) ∧ Below w.heap.size w c ∧ bq < c.heap.size) v13 from ⟨j1, j2, j3, j4, j5⟩)
        refine wpAnyH_ready (rs := [13]) (by kernel_rfl) (by simp) ?_
        refine AllReadyH.cons (o := ⟨none, .store 28 (.tmp 7) (.tmp 32), _, _, _, none⟩) rfl (fun K hK => ?_) AllReadyH.nil
        refine wanted_mp rfl ?_
        have th : v13.there b7 0 13 := Blk.there n13.out
        refine wp_store_mid _ _ _ rfl b7 0 #[.int .u64 q0, .int .u64 q1, .int .u64 q2, .int .u64 q3, .int .i64 q4, .int .u64 q5, .bool q6, .int .u64 q7, .int .i64 q8, .int .u64 q9, .int .u64 q10, .int .u64 q11, .int .u64 q12] rfl rfl th st_info (by simp [Value.oneCell']) ?_
        refine hK.out _ _ ?_ (fun i1 => ?_)
        · exact ⟨Blk.scs j1 (by omega) _ 0, Blk.scs j2 (by omega) _ 0, World.rangeAt_setCells_apart j3.out _ 0 _ (Or.inl (by omega)), below_scs j4 (by omega) _ 0, by rw [size_scs]; exact j5⟩
        clear hK K i0 th
        try simp only [Act.put, List.setIfInBounds_toArray, List.set_cons_zero, List.set_cons_succ]
        simp only [List.toList_toArray] at i1 ⊢
        have Fb7 : Hid (Blk (v13.setCells b7 0 [.int .u64 q0, .int .u64 q1, .int .u64 q2, .int .u64 q3, .int .i64 q4, .int .u64 q5, .bool q6, .int .u64 q7, .int .i64 q8, .int .u64 q9, .int .u64 q10, .int .u64 q11, .int .u64 q12]) b7 [.int .u64 q0, .int .u64 q1, .int .u64 q2, .int .u64 q3, .int .i64 q4, .int .u64 q5, .bool q6, .int .u64 q7, .int .i64 q8, .int .u64 q9, .int .u64 q10, .int .u64 q11, .int .u64 q12] 28) := Blk.scsame n13.out _ 0
        have F2 := Blk.scs (c := b7) mb813.out (by omega) [.int .u64 q0, .int .u64 q1, .int .u64 q2, .int .u64 q3, .int .i64 q4, .int .u64 q5, .bool q6, .int .u64 q7, .int .i64 q8, .int .u64 q9, .int .u64 q10, .int .u64 q11, .int .u64 q12] 0
        have F2 : Hid _ := F2
        generalize v13.setCells b7 0 [.int .u64 q0, .int .u64 q1, .int .u64 q2, .int .u64 q3, .int .i64 q4, .int .u64 q5, .bool q6, .int .u64 q7, .int .i64 q8, .int .u64 q9, .int .u64 q10, .int .u64 q11, .int .u64 q12] = X1 at i1 Fb7 F2 ⊢
        clear j1 j2 j3 j4 j5 n13 mb813
        obtain ⟨j1, j2, j3, j4, j5⟩ := i1
        have G8 := F2
        clear F2
        have i2 := (show (fun c => Blk c w.heap.size [.int .u64 r0, .int .u64 r1, .int .u64 r2, .int .u64 r3, .int .i64 t, .int .u64 en, .bool i, .int .u64 fa, .int .i64 fc, .int .u64 p0, .int .u64 p1, .int .u64 p2, .int .u64 p3] 28 ∧ Blk c bx [.int .u64 r0, .int .u64 r1, .int .u64 r2, .int .u64 r3, .int .i64 t, .int .u64 en, .bool i, .int .u64 fa, .int .i64 fc, .int .u64 p0, .int .u64 p1, .int .u64 p2, .int .u64 p3] 31 ∧ Hid (c.rangeAt bq (oq + k * 8) [.int .i64 kd, .int .i64 op, .int .i64 a, .int .i64 b, .int .i64 d, .int .u64 x, .int .u64 ga, .int .i64 gc]) ∧ Below w.heap.size w c ∧ bq < c.heap.size) X1 from ⟨j1, j2, j3, j4, j5⟩)
        refine wpAnyH_ready (rs := [14]) (by kernel_rfl) (by simp) ?_
        refine AllReadyH.cons (o := ⟨none, .store 31 (.tmp 8) (.tmp 33), _, _, _, none⟩) rfl (fun K hK => ?_) AllReadyH.nil
        refine wanted_mp rfl ?_
        have th : X1.there b8 0 13 := Blk.there G8.out
        refine wp_store_mid _ _ _ rfl b8 0 #[.int .u64 q0, .int .u64 q1, .int .u64 q2, .int .u64 q3, .int .i64 q4, .int .u64 q5, .bool q6, .int .u64 q7, .int .i64 q8, .int .u64 q9, .int .u64 q10, .int .u64 q11, .int .u64 q12] rfl rfl th sx_info (by simp [Value.oneCell']) ?_
        refine hK.out _ _ ?_ (fun i3 => ?_)
        · exact ⟨Blk.scs j1 (by omega) _ 0, Blk.scs j2 (by omega) _ 0, World.rangeAt_setCells_apart j3.out _ 0 _ (Or.inl (by omega)), below_scs j4 (by omega) _ 0, by rw [size_scs]; exact j5⟩
        clear hK K i2 th
        try simp only [Act.put, List.setIfInBounds_toArray, List.set_cons_zero, List.set_cons_succ]
        simp only [List.toList_toArray] at i3 ⊢
        have Fb8 : Hid (Blk (X1.setCells b8 0 [.int .u64 q0, .int .u64 q1, .int .u64 q2, .int .u64 q3, .int .i64 q4, .int .u64 q5, .bool q6, .int .u64 q7, .int .i64 q8, .int .u64 q9, .int .u64 q10, .int .u64 q11, .int .u64 q12]) b8 [.int .u64 q0, .int .u64 q1, .int .u64 q2, .int .u64 q3, .int .i64 q4, .int .u64 q5, .bool q6, .int .u64 q7, .int .i64 q8, .int .u64 q9, .int .u64 q10, .int .u64 q11, .int .u64 q12] 31) := Blk.scsame G8.out _ 0
        have F2 := Blk.scs (c := b8) Fb7.out (by omega) [.int .u64 q0, .int .u64 q1, .int .u64 q2, .int .u64 q3, .int .i64 q4, .int .u64 q5, .bool q6, .int .u64 q7, .int .i64 q8, .int .u64 q9, .int .u64 q10, .int .u64 q11, .int .u64 q12] 0
        have F2 : Hid _ := F2
        generalize X1.setCells b8 0 [.int .u64 q0, .int .u64 q1, .int .u64 q2, .int .u64 q3, .int .i64 q4, .int .u64 q5, .bool q6, .int .u64 q7, .int .i64 q8, .int .u64 q9, .int .u64 q10, .int .u64 q11, .int .u64 q12] = X2 at i3 Fb8 F2 ⊢
        clear j1 j2 j3 j4 j5 G8 Fb7
        obtain ⟨j1, j2, j3, j4, j5⟩ := i3
        have i3 := (show (fun c => Blk c w.heap.size [.int .u64 r0, .int .u64 r1, .int .u64 r2, .int .u64 r3, .int .i64 t, .int .u64 en, .bool i, .int .u64 fa, .int .i64 fc, .int .u64 p0, .int .u64 p1, .int .u64 p2, .int .u64 p3] 28 ∧ Blk c bx [.int .u64 r0, .int .u64 r1, .int .u64 r2, .int .u64 r3, .int .i64 t, .int .u64 en, .bool i, .int .u64 fa, .int .i64 fc, .int .u64 p0, .int .u64 p1, .int .u64 p2, .int .u64 p3] 31 ∧ Hid (c.rangeAt bq (oq + k * 8) [.int .i64 kd, .int .i64 op, .int .i64 a, .int .i64 b, .int .i64 d, .int .u64 x, .int .u64 ga, .int .i64 gc]) ∧ Below w.heap.size w c ∧ bq < c.heap.size) X2 from ⟨j1, j2, j3, j4, j5⟩)
        refine wpAnyH_take (i := 15) (oi := ⟨some 9, _, _, _, _, none⟩) (v := ?_) rfl (by kernel_rfl) (by kernel_rfl) (by kernel_rfl) (fun _ _ _ h => h) (Or.inl ⟨by rfl, ?_⟩) (by assumption) ?_
        rotate_left
        · intro w hSw; (try dsimp only at hSw); go_simp; (try with_reducible rfl)
        try simp only [Act.put, List.setIfInBounds_toArray, List.set_cons_zero, List.set_cons_succ]
        have W1 : Hid (Blk X2 w.heap.size [.int .u64 r0, .int .u64 r1, .int .u64 r2, .int .u64 r3, .int .i64 t, .int .u64 en, .bool i, .int .u64 fa, .int .i64 fc, .int .u64 p0, .int .u64 p1, .int .u64 p2, .int .u64 p3] 28) := j1
        have W2 : Hid (Blk X2 bx [.int .u64 r0, .int .u64 r1, .int .u64 r2, .int .u64 r3, .int .i64 t, .int .u64 en, .bool i, .int .u64 fa, .int .i64 fc, .int .u64 p0, .int .u64 p1, .int .u64 p2, .int .u64 p3] 31) := j2
        have W3 : Hid (Below w.heap.size w X2) := j4
        clear j1 j2 j3 j4 j5 i3
        refine wpAnyH_done (by kernel_rfl) ?_ _
        refine NoPanic.normal ?_
        try go_wp2_with fail
        go_meet
        exact ⟨b7, b8, rfl, rfl, rfl, F2, Fb8, W1, W2, W3, ⟨P7.1.1, P7.1.2, P8.1.1, P8.1.2⟩⟩
      refine AllReadyH.cons (o := ⟨some 7, _, _, _, _, none⟩) rfl (fun K hK => ?_) AllReadyH.nil
      go_simp
      have NB14 : Hid (Below v11.heap.size v11 (v11.alloc (.cells #[.int .u64 0, .int .u64 0, .int .u64 0, .int .u64 0, .int .i64 0, .int .u64 0, .bool false, .int .u64 0, .int .i64 0, .int .u64 0, .int .u64 0, .int .u64 0, .int .u64 0] 28))) := Go.Joins.below_alloc1 _ _
      have mb814 := Blk.below n11.out NB14.out
      have mb814 : Hid _ := mb814
      have n14 : Hid (Blk (v11.alloc (.cells #[.int .u64 0, .int .u64 0, .int .u64 0, .int .u64 0, .int .i64 0, .int .u64 0, .bool false, .int .u64 0, .int .i64 0, .int .u64 0, .int .u64 0, .int .u64 0, .int .u64 0] 28)) v11.heap.size [.int .u64 0, .int .u64 0, .int .u64 0, .int .u64 0, .int .i64 0, .int .u64 0, .bool false, .int .u64 0, .int .i64 0, .int .u64 0, .int .u64 0, .int .u64 0, .int .u64 0] 28) := Blk.made _ _ _
      have N14 : Hid ((v11.heap.size ≠ w.heap.size ∧ v11.heap.size ≠ bx) ∧ v11.heap.size ≠ bq ∧ w.heap.size ≤ v11.heap.size ∧ v11.heap.size ≠ b8) := ⟨⟨by have := blk_lt hH11.1; omega, by have := blk_lt hH11.2.1; omega⟩, by have := hH11.2.2.2.2; omega, Below.size hH11.2.2.2.1, by have := blk_lt n11.out; omega⟩
      refine hK.out _ _ ⟨Blk.below hH11.1 NB14.out, Blk.below hH11.2.1 NB14.out, range_below hH11.2.2.1.out NB14.out hH11.2.2.2.2, below_then hH11.2.2.2.1 NB14.out, Nat.lt_of_lt_of_le hH11.2.2.2.2 (Below.size NB14.out)⟩ (fun hH14 => ?_)
      clear hK K hH11 NB14 n11
      try simp only [Act.put, List.setIfInBounds_toArray, List.set_cons_zero, List.set_cons_succ]
      generalize v11.alloc (.cells #[.int .u64 0, .int .u64 0, .int .u64 0, .int .u64 0, .int .i64 0, .int .u64 0, .bool false, .int .u64 0, .int .i64 0, .int .u64 0, .int .u64 0, .int .u64 0, .int .u64 0] 28) = v14 at hH14 n14 mb814 ⊢
      generalize v11.heap.size = b7 at n14 N14 ⊢
      have Qb7 : Hid _ := N14
      refine wpAnyH_ready (rs := [6]) (by kernel_rfl) (by simp) ?_
      refine AllReadyH.cons (o := ⟨some 31, _, _, _, _, none⟩) rfl (fun K hK => ?_) AllReadyH.nil
      go_simp
      go_wp2_with (go_at_call 9; refine (CD.out _).mono ?_; rintro e v15 ⟨rfl, hb⟩)
      have mb815 : Hid (Blk v15 b8 [.int .u64 0, .int .u64 0, .int .u64 0, .int .u64 0, .int .i64 0, .int .u64 0, .bool false, .int .u64 0, .int .i64 0, .int .u64 0, .int .u64 0, .int .u64 0, .int .u64 0] 31) := Blk.below mb814.out hb
      have mb715 : Hid (Blk v15 b7 [.int .u64 0, .int .u64 0, .int .u64 0, .int .u64 0, .int .i64 0, .int .u64 0, .bool false, .int .u64 0, .int .i64 0, .int .u64 0, .int .u64 0, .int .u64 0, .int .u64 0] 28) := Blk.below n14.out hb
      refine hK.out _ _ ⟨Blk.below hH14.1 hb, Blk.below hH14.2.1 hb, range_below hH14.2.2.1.out hb hH14.2.2.2.2, below_then hH14.2.2.2.1 hb, Nat.lt_of_lt_of_le hH14.2.2.2.2 (Below.size hb)⟩ (fun hH15 => ?_)
      clear hK K hb hH14 mb814 n14
      try simp only [Act.put, List.setIfInBounds_toArray, List.set_cons_zero, List.set_cons_succ]
      refine wpAnyH_take (i := 7) (oi := ⟨some 24, _, _, _, _, none⟩) (v := ?_) rfl (by kernel_rfl) (by kernel_rfl) (by kernel_rfl) (fun _ _ _ h => h) (Or.inl ⟨by rfl, ?_⟩) (by assumption) ?_
      rotate_left
      · intro w hSw; (try dsimp only at hSw); go_simp; (try with_reducible rfl)
      try simp only [Act.put, List.setIfInBounds_toArray, List.set_cons_zero, List.set_cons_succ]
      refine wpAnyH_take (i := 8) (oi := ⟨some 32, _, _, _, _, none⟩) (v := ?_) rfl (by kernel_rfl) (by kernel_rfl) (by kernel_rfl) (fun _ _ _ h => h) (Or.inl ⟨by rfl, ?_⟩) (by assumption) ?_
      rotate_left
      · intro w hSw; (try dsimp only at hSw); go_simp; (try with_reducible rfl)
      try simp only [Act.put, List.setIfInBounds_toArray, List.set_cons_zero, List.set_cons_succ]
      refine wpAnyH_take (i := 9) (oi := ⟨some 33, _, _, _, _, none⟩) (v := ?_) rfl (by kernel_rfl) (by kernel_rfl) (by kernel_rfl) (fun _ _ _ h => h) (Or.inl ⟨by rfl, ?_⟩) (by assumption) ?_
      rotate_left
      · intro w hSw; (try dsimp only at hSw); go_simp; (try with_reducible rfl)
      try simp only [Act.put, List.setIfInBounds_toArray, List.set_cons_zero, List.set_cons_succ]
      refine wpAnyH_take (i := 10) (oi := ⟨some 34, _, _, _, _, none⟩) (v := ?_) rfl (by kernel_rfl) (by kernel_rfl) (by kernel_rfl) (fun _ _ _ h => h) (Or.inl ⟨by rfl, ?_⟩) (by assumption) ?_
      rotate_left
      · intro w hSw; (try dsimp only at hSw); go_simp; (try with_reducible rfl)
      try simp only [Act.put, List.setIfInBounds_toArray, List.set_cons_zero, List.set_cons_succ]
      have P7 := Qb7.out
      have P8 := Qb8.out
      obtain ⟨j1, j2, j3, j4, j5⟩ := hH15
      have i0 := (show (fun c => Blk c w.heap.size [.int .u64 r0, .int .u64 r1, .int .u64 r2, .int .u64 r3, .int .i64 t, .int .u64 en, .bool i, .int .u64 fa, .int .i64 fc, .int .u64 p0, .int .u64 p1, .int .u64 p2, .int .u64 p3] 28 ∧ Blk c bx [.int .u64 r0, .int .u64 r1, .int .u64 r2, .int .u64 r3, .int .i64 t, .int .u64 en, .bool i, .int .u64 fa, .int .i64 fc, .int .u64 p0, .int .u64 p1, .int .u64 p2, .int .u64 p3] 31 ∧ Hid (c.rangeAt bq (oq + k * 8) [.int .i64 kd, .int .i64 op, .int .i64 a, .int .i64 b, .int .i64 d, .int .u64 x, .int .u64 ga, .int .i64 gc]) ∧ Below w.heap.size w c ∧ bq < c.heap.size) v15 from ⟨j1, j2, j3, j4, j5⟩)
      refine wpAnyH_ready (rs := [13]) (by kernel_rfl) (by simp) ?_
      refine AllReadyH.cons (o := ⟨none, .store 28 (.tmp 7) (.tmp 32), _, _, _, none⟩) rfl (fun K hK => ?_) AllReadyH.nil
      refine wanted_mp rfl ?_
      have th : v15.there b7 0 13 := Blk.there mb715.out
      refine wp_store_mid _ _ _ rfl b7 0 #[.int .u64 q0, .int .u64 q1, .int .u64 q2, .int .u64 q3, .int .i64 q4, .int .u64 q5, .bool q6, .int .u64 q7, .int .i64 q8, .int .u64 q9, .int .u64 q10, .int .u64 q11, .int .u64 q12] rfl rfl th st_info (by simp [Value.oneCell']) ?_
      refine hK.out _ _ ?_ (fun i1 => ?_)
      · exact ⟨Blk.scs j1 (by omega) _ 0, Blk.scs j2 (by omega) _ 0, World.rangeAt_setCells_apart j3.out _ 0 _ (Or.inl (by omega)), below_scs j4 (by omega) _ 0, by rw [size_scs]; exact j5⟩
      clear hK K i0 th
      try simp only [Act.put, List.setIfInBounds_toArray, List.set_cons_zero, List.set_cons_succ]
      simp only [List.toList_toArray] at i1 ⊢
      have Fb7 : Hid (Blk (v15.setCells b7 0 [.int .u64 q0, .int .u64 q1, .int .u64 q2, .int .u64 q3, .int .i64 q4, .int .u64 q5, .bool q6, .int .u64 q7, .int .i64 q8, .int .u64 q9, .int .u64 q10, .int .u64 q11, .int .u64 q12]) b7 [.int .u64 q0, .int .u64 q1, .int .u64 q2, .int .u64 q3, .int .i64 q4, .int .u64 q5, .bool q6, .int .u64 q7, .int .i64 q8, .int .u64 q9, .int .u64 q10, .int .u64 q11, .int .u64 q12] 28) := Blk.scsame mb715.out _ 0
      have F2 := Blk.scs (c := b7) mb815.out (by omega) [.int .u64 q0, .int .u64 q1, .int .u64 q2, .int .u64 q3, .int .i64 q4, .int .u64 q5, .bool q6, .int .u64 q7, .int .i64 q8, .int .u64 q9, .int .u64 q10, .int .u64 q11, .int .u64 q12] 0
      have F2 : Hid _ := F2
      generalize v15.setCells b7 0 [.int .u64 q0, .int .u64 q1, .int .u64 q2, .int .u64 q3, .int .i64 q4, .int .u64 q5, .bool q6, .int .u64 q7, .int .i64 q8, .int .u64 q9, .int .u64 q10, .int .u64 q11, .int .u64 q12] = X1 at i1 Fb7 F2 ⊢
      clear j1 j2 j3 j4 j5 mb715 mb815
      obtain ⟨j1, j2, j3, j4, j5⟩ := i1
      have G8 := F2
      clear F2
      have i2 := (show (fun c => Blk c w.heap.size [.int .u64 r0, .int .u64 r1, .int .u64 r2, .int .u64 r3, .int .i64 t, .int .u64 en, .bool i, .int .u64 fa, .int .i64 fc, .int .u64 p0, .int .u64 p1, .int .u64 p2, .int .u64 p3] 28 ∧ Blk c bx [.int .u64 r0, .int .u64 r1, .int .u64 r2, .int .u64 r3, .int .i64 t, .int .u64 en, .bool i, .int .u64 fa, .int .i64 fc, .int .u64 p0, .int .u64 p1, .int .u64 p2, .int .u64 p3] 31 ∧ Hid (c.rangeAt bq (oq + k * 8) [.int .i64 kd, .int .i64 op, .int .i64 a, .int .i64 b, .int .i64 d, .int .u64 x, .int .u64 ga, .int .i64 gc]) ∧ Below w.heap.size w c ∧ bq < c.heap.size) X1 from ⟨j1, j2, j3, j4, j5⟩)
      refine wpAnyH_ready (rs := [14]) (by kernel_rfl) (by simp) ?_
      refine AllReadyH.cons (o := ⟨none, .store 31 (.tmp 8) (.tmp 33), _, _, _, none⟩) rfl (fun K hK => ?_) AllReadyH.nil
      refine wanted_mp rfl ?_
      have th : X1.there b8 0 13 := Blk.there G8.out
      refine wp_store_mid _ _ _ rfl b8 0 #[.int .u64 q0, .int .u64 q1, .int .u64 q2, .int .u64 q3, .int .i64 q4, .int .u64 q5, .bool q6, .int .u64 q7, .int .i64 q8, .int .u64 q9, .int .u64 q10, .int .u64 q11, .int .u64 q12] rfl rfl th sx_info (by simp [Value.oneCell']) ?_
      refine hK.out _ _ ?_ (fun i3 => ?_)
      · exact ⟨Blk.scs j1 (by omega) _ 0, Blk.scs j2 (by omega) _ 0, World.rangeAt_setCells_apart j3.out _ 0 _ (Or.inl (by omega)), below_scs j4 (by omega) _ 0, by rw [size_scs]; exact j5⟩
      clear hK K i2 th
      try simp only [Act.put, List.setIfInBounds_toArray, List.set_cons_zero, List.set_cons_succ]
      simp only [List.toList_toArray] at i3 ⊢
      have Fb8 : Hid (Blk (X1.setCells b8 0 [.int .u64 q0, .int .u64 q1, .int .u64 q2, .int .u64 q3, .int .i64 q4, .int .u64 q5, .bool q6, .int .u64 q7, .int .i64 q8, .int .u64 q9, .int .u64 q10, .int .u64 q11, .int .u64 q12]) b8 [.int .u64 q0, .int .u64 q1, .int .u64 q2, .int .u64 q3, .int .i64 q4, .int .u64 q5, .bool q6, .int .u64 q7, .int .i64 q8, .int .u64 q9, .int .u64 q10, .int .u64 q11, .int .u64 q12] 31) := Blk.scsame G8.out _ 0
      have F2 := Blk.scs (c := b8) Fb7.out (by omega) [.int .u64 q0, .int .u64 q1, .int .u64 q2, .int .u64 q3, .int .i64 q4, .int .u64 q5, .bool q6, .int .u64 q7, .int .i64 q8, .int .u64 q9, .int .u64 q10, .int .u64 q11, .int .u64 q12] 0
      have F2 : Hid _ := F2
      generalize X1.setCells b8 0 [.int .u64 q0, .int .u64 q1, .int .u64 q2, .int .u64 q3, .int .i64 q4, .int .u64 q5, .bool q6, .int .u64 q7, .int .i64 q8, .int .u64 q9, .int .u64 q10, .int .u64 q11, .int .u64 q12] = X2 at i3 Fb8 F2 ⊢
      clear j1 j2 j3 j4 j5 G8 Fb7
      obtain ⟨j1, j2, j3, j4, j5⟩ := i3
      have i3 := (show (fun c => Blk c w.heap.size [.int .u64 r0, .int .u64 r1, .int .u64 r2, .int .u64 r3, .int .i64 t, .int .u64 en, .bool i, .int .u64 fa, .int .i64 fc, .int .u64 p0, .int .u64 p1, .int .u64 p2, .int .u64 p3] 28 ∧ Blk c bx [.int .u64 r0, .int .u64 r1, .int .u64 r2, .int .u64 r3, .int .i64 t, .int .u64 en, .bool i, .int .u64 fa, .int .i64 fc, .int .u64 p0, .int .u64 p1, .int .u64 p2, .int .u64 p3] 31 ∧ Hid (c.rangeAt bq (oq + k * 8) [.int .i64 kd, .int .i64 op, .int .i64 a, .int .i64 b, .int .i64 d, .int .u64 x, .int .u64 ga, .int .i64 gc]) ∧ Below w.heap.size w c ∧ bq < c.heap.size) X2 from ⟨j1, j2, j3, j4, j5⟩)
      refine wpAnyH_take (i := 15) (oi := ⟨some 9, _, _, _, _, none⟩) (v := ?_) rfl (by kernel_rfl) (by kernel_rfl) (by kernel_rfl) (fun _ _ _ h => h) (Or.inl ⟨by rfl, ?_⟩) (by assumption) ?_
      rotate_left
      · intro w hSw; (try dsimp only at hSw); go_simp; (try with_reducible rfl)
      try simp only [Act.put, List.setIfInBounds_toArray, List.set_cons_zero, List.set_cons_succ]
      have W1 : Hid (Blk X2 w.heap.size [.int .u64 r0, .int .u64 r1, .int .u64 r2, .int .u64 r3, .int .i64 t, .int .u64 en, .bool i, .int .u64 fa, .int .i64 fc, .int .u64 p0, .int .u64 p1, .int .u64 p2, .int .u64 p3] 28) := j1
      have W2 : Hid (Blk X2 bx [.int .u64 r0, .int .u64 r1, .int .u64 r2, .int .u64 r3, .int .i64 t, .int .u64 en, .bool i, .int .u64 fa, .int .i64 fc, .int .u64 p0, .int .u64 p1, .int .u64 p2, .int .u64 p3] 31) := j2
      have W3 : Hid (Below w.heap.size w X2) := j4
      clear j1 j2 j3 j4 j5 i3
      refine wpAnyH_done (by kernel_rfl) ?_ _
      refine NoPanic.normal ?_
      try go_wp2_with fail
      go_meet
      exact ⟨b7, b8, rfl, rfl, rfl, F2, Fb8, W1, W2, W3, ⟨P7.1.1, P7.1.2, P8.1.1, P8.1.2⟩⟩
    case rest =>
      clear Zs Zx ACT BW lq2 CD DOES HA
      obtain ⟨b7, b8, rfl, rfl, rfl, F7, F8, Z1, Z2, BW2, NN⟩ := hcut
      have N7 := NN.out
      have NX1 := NX.out
      go_upto_region 8 with fail
      refine wp_region_lit ?_
      refine load_pat b7 0 [.int .u64 q0, .int .u64 q1, .int .u64 q2, .int .u64 q3, .int .i64 q4, .int .u64 q5, .bool q6, .int .u64 q7, .int .i64 q8, .int .u64 q9, .int .u64 q10, .int .u64 q11, .int .u64 q12] _ rfl (Blk.range F7.out) Try.underlying28 rfl st_info ?_
      have th : wc.there (w.heap.size) 0 13 := Blk.there Z1.out
      refine store_pat (w.heap.size) 0 #[.int .u64 q0, .int .u64 q1, .int .u64 q2, .int .u64 q3, .int .i64 q4, .int .u64 q5, .bool q6, .int .u64 q7, .int .i64 q8, .int .u64 q9, .int .u64 q10, .int .u64 q11, .int .u64 q12] rfl rfl th st_info (by simp [Value.oneCell']) ?_
      clear th
      simp only [List.toList_toArray]
      have DX1 : Hid (Blk (wc.setCells (w.heap.size) 0 [.int .u64 q0, .int .u64 q1, .int .u64 q2, .int .u64 q3, .int .i64 q4, .int .u64 q5, .bool q6, .int .u64 q7, .int .i64 q8, .int .u64 q9, .int .u64 q10, .int .u64 q11, .int .u64 q12]) (w.heap.size) [.int .u64 q0, .int .u64 q1, .int .u64 q2, .int .u64 q3, .int .i64 q4, .int .u64 q5, .bool q6, .int .u64 q7, .int .i64 q8, .int .u64 q9, .int .u64 q10, .int .u64 q11, .int .u64 q12] 28) := Blk.scsame Z1.out _ 0
      have E8X1 : Hid (Blk (wc.setCells (w.heap.size) 0 [.int .u64 q0, .int .u64 q1, .int .u64 q2, .int .u64 q3, .int .i64 q4, .int .u64 q5, .bool q6, .int .u64 q7, .int .i64 q8, .int .u64 q9, .int .u64 q10, .int .u64 q11, .int .u64 q12]) (b8) [.int .u64 q0, .int .u64 q1, .int .u64 q2, .int .u64 q3, .int .i64 q4, .int .u64 q5, .bool q6, .int .u64 q7, .int .i64 q8, .int .u64 q9, .int .u64 q10, .int .u64 q11, .int .u64 q12] 31) := Blk.scs F8.out (by omega) _ 0
      have E2X1 : Hid (Blk (wc.setCells (w.heap.size) 0 [.int .u64 q0, .int .u64 q1, .int .u64 q2, .int .u64 q3, .int .i64 q4, .int .u64 q5, .bool q6, .int .u64 q7, .int .i64 q8, .int .u64 q9, .int .u64 q10, .int .u64 q11, .int .u64 q12]) (bx) [.int .u64 r0, .int .u64 r1, .int .u64 r2, .int .u64 r3, .int .i64 t, .int .u64 en, .bool i, .int .u64 fa, .int .i64 fc, .int .u64 p0, .int .u64 p1, .int .u64 p2, .int .u64 p3] 31) := Blk.scs Z2.out (by omega) _ 0
      have BX1 : Hid (Below w.heap.size w (wc.setCells (w.heap.size) 0 [.int .u64 q0, .int .u64 q1, .int .u64 q2, .int .u64 q3, .int .i64 q4, .int .u64 q5, .bool q6, .int .u64 q7, .int .i64 q8, .int .u64 q9, .int .u64 q10, .int .u64 q11, .int .u64 q12])) := below_scs BW2.out (by omega) _ 0
      generalize wc.setCells (w.heap.size) 0 [.int .u64 q0, .int .u64 q1, .int .u64 q2, .int .u64 q3, .int .i64 q4, .int .u64 q5, .bool q6, .int .u64 q7, .int .i64 q8, .int .u64 q9, .int .u64 q10, .int .u64 q11, .int .u64 q12] = X1 at DX1 E8X1 E2X1 BX1 ⊢
      go_upto_region 9 with fail
      refine wp_region_lit ?_
      refine load_pat b8 0 [.int .u64 q0, .int .u64 q1, .int .u64 q2, .int .u64 q3, .int .i64 q4, .int .u64 q5, .bool q6, .int .u64 q7, .int .i64 q8, .int .u64 q9, .int .u64 q10, .int .u64 q11, .int .u64 q12] _ rfl (Blk.range E8X1.out) Try.underlying31 rfl sx_info ?_
      have th : X1.there (bx) 0 13 := Blk.there E2X1.out
      refine store_pat (bx) 0 #[.int .u64 q0, .int .u64 q1, .int .u64 q2, .int .u64 q3, .int .i64 q4, .int .u64 q5, .bool q6, .int .u64 q7, .int .i64 q8, .int .u64 q9, .int .u64 q10, .int .u64 q11, .int .u64 q12] rfl rfl th sx_info (by simp [Value.oneCell']) ?_
      clear th
      simp only [List.toList_toArray]
      have DX2 : Hid (Blk (X1.setCells (bx) 0 [.int .u64 q0, .int .u64 q1, .int .u64 q2, .int .u64 q3, .int .i64 q4, .int .u64 q5, .bool q6, .int .u64 q7, .int .i64 q8, .int .u64 q9, .int .u64 q10, .int .u64 q11, .int .u64 q12]) (bx) [.int .u64 q0, .int .u64 q1, .int .u64 q2, .int .u64 q3, .int .i64 q4, .int .u64 q5, .bool q6, .int .u64 q7, .int .i64 q8, .int .u64 q9, .int .u64 q10, .int .u64 q11, .int .u64 q12] 31) := Blk.scsame E2X1.out _ 0
      have E1X2 : Hid (Blk (X1.setCells (bx) 0 [.int .u64 q0, .int .u64 q1, .int .u64 q2, .int .u64 q3, .int .i64 q4, .int .u64 q5, .bool q6, .int .u64 q7, .int .i64 q8, .int .u64 q9, .int .u64 q10, .int .u64 q11, .int .u64 q12]) (w.heap.size) [.int .u64 q0, .int .u64 q1, .int .u64 q2, .int .u64 q3, .int .i64 q4, .int .u64 q5, .bool q6, .int .u64 q7, .int .i64 q8, .int .u64 q9, .int .u64 q10, .int .u64 q11, .int .u64 q12] 28) := Blk.scs DX1.out (by omega) _ 0
      have BX2 : Hid (Below w.heap.size w (X1.setCells (bx) 0 [.int .u64 q0, .int .u64 q1, .int .u64 q2, .int .u64 q3, .int .i64 q4, .int .u64 q5, .bool q6, .int .u64 q7, .int .i64 q8, .int .u64 q9, .int .u64 q10, .int .u64 q11, .int .u64 q12])) := below_scs BX1.out (by omega) _ 0
      generalize X1.setCells (bx) 0 [.int .u64 q0, .int .u64 q1, .int .u64 q2, .int .u64 q3, .int .i64 q4, .int .u64 q5, .bool q6, .int .u64 q7, .int .i64 q8, .int .u64 q9, .int .u64 q10, .int .u64 q11, .int .u64 q12] = X2 at DX2 E1X2 BX2 ⊢
      clear F7 F8 Z1 Z2 BW2 NN N7 E8X1 E2X1 DX1 BX1
      go_wp2_with fail
      go_roundw
      case rel => exact ⟨k + 1, ⟨q0, q1, q2, q3, q4, q5, q6, q7, q8, q9, q10, q11, q12⟩, by omega, by omega, by go_num, HW, E1X2, DX2, BX2⟩
      case measure => simp [intOf]; omega

theorem own : ownKnob Try.prog.godebug = none := by kernel_rfl
theorem laidOut : laidOutB Try.prog = true := by kernel_rfl
set_option maxRecDepth 100000 in
theorem lifted (os : Os) (started : os.Started) (H : Type) (enc : TypeId × Value → H) :
    ReturnsInHanded {} Try.checked os 3 .any (Rows.trapPlaysSpec.pre6 enc Try.prog Try.f3 Rows.trapPlaysRow.domain false) (Rows.trapPlaysSpec.post enc Try.prog Try.f3 false true false false) := by
  refine returnsInHanded_of_change (C := Try.checked) own started (by kernel_rfl) Try.func3
    (ChangeSpec.witness6 (enc := enc) (C := Try.checked) false ⟨#[], #[.agg #[.int .u64 0, .int .u64 0, .int .u64 0, .int .u64 0, .int .i64 0, .int .u64 0, .bool false, .int .u64 0, .int .i64 0, .int .u64 0, .int .u64 0, .int .u64 0, .int .u64 0], .slice none 0 0], []⟩ 8 (by kernel_rfl) (by kernel_rfl) (by kernel_rfl) (by kernel_rfl)) ?_
  intro W base args ds gs before hval0 hW hcnd _
  have hval : ∀ (j : Nat) t v, Try.f3.params[j]? = some t → args[j]? = some v → Value.okWide Try.prog W .any base t v := hval0
  have hW' := hW
  obtain ⟨p, q, hA0, hV, hbef, hfz, hnd⟩ := hW
  have hA : DataW.TrodAll enc Try.prog W 0 (fun _ => true) true Try.f3.params.toList args.toList ds p := hA0
  have hAk := hA
  have hlt : ∀ x ∈ p, x.block < W.heap.size := fun x hx => hW'.lt x (by rw [hbef]; exact List.mem_append_left _ hx)
  rw [Try.params3] at hA hval
  obtain ⟨v0, vs0, d0, ds0, p0, q0, hargs, rfl, hp0, h0, r0⟩ := trodAll_cons hA
  obtain ⟨v1, vs1, d1, ds1, p1, q1, rfl, rfl, hp1, h1, r1⟩ := trodAll_cons r0
  obtain ⟨rfl, rfl, hpz⟩ := trodAll_nil r1
  obtain rfl : args = #[v0, v1] := by cases args; simp_all
  obtain ⟨rfl, rfl⟩ := trodVars_none hV
  obtain ⟨s0, rfl, w0⟩ := open_st (hval 0 28 v0 rfl rfl) h0
  obtain ⟨p1, n1, c1, A1, rfl, m1, H1⟩ := open_acts (hval 1 29 v1 rfl rfl) h1
  clear hA0 hval0
  refine (walk s0 w0 p1 n1 c1 A1 m1 W H1).mono fun e W' ⟨he, hg⟩ => ?_
  subst he
  exact ⟨_, rfl, ⟨_, _, _, [], p, [], hW', (trodAll_cons_mk (shut_bool Try.underlying4 _) trodAll_mk0), args_stay laidOut hg (by kernel_rfl) hAk hlt, rfl, hg.frame _, fun h => by cases h⟩⟩

theorem over : Rows.trapPlaysRow.holds Try.pinned (OpenSpec.ofChange Rows.trapPlaysSpec) :=
  OpenClaim.holds_of_wide 3 Try.f3 rfl rfl rfl rfl rfl rfl rfl ⟨rfl, rfl, rfl, rfl, rfl⟩ rfl rfl rfl rfl rfl (by kernel_rfl) Try.func3 (by kernel_rfl)
    (of_decide_eq_true (by kernel_rfl)) (by unfold Func.isWrapper; first | (rw [if_pos (by decide +kernel)]; kernel_rfl) | (rw [if_neg (by decide +kernel)]; exact ⟨rfl, rfl⟩))
    (fun os started H enc _ => lifted os started H enc)

theorem proved : Rows.TrapPlaysSaid :=
  over
#print axioms proved
end Go.Proofs.Ytcieglidghnidaa.trapPlays
