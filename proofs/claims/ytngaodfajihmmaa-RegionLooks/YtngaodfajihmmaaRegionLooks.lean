/- For any list, page and range: of at most 70 regions of numbers of at most 40 bits it is told which lists are good, who has a page, and how many pages of a range are had, as the document says; no condition. -/
import Derived.Test.YtngaodfajihmmaaRows
import Derived.ProofKit
import Derived.OpenShut
import Derived.Carry
import Derived.Test.YtngaodfajihmmaaG17
namespace Go.Proofs.Ytngaodfajihmmaa.regionLooks
open Go.ChangeShapes Go.WideShapes Go.ChangeAt Go.RowKit Go.Maps
set_option linter.unusedSimpArgs false
set_option linter.unusedVariables false

set_option maxRecDepth 8000 in
set_option maxHeartbeats 16000000 in
theorem walk (p0 : Option Addr) (n0 c0 : Nat) (A0 : Nat → Rg) (m0 : n0 ≤ maxLen) (a1 : Int) (w1 : (Lit.int .i64 a1).wf = true) (a2 : Int) (w2 : (Lit.int .i64 a2).wf = true) (a3 : Int) (w3 : (Lit.int .i64 a3).wf = true) (w : World) (H0 : IsIn w p0 n0 A0) :
    Calls Try.prog 4 #[.slice p0 n0 c0, .int .i64 a1, .int .i64 a2, .int .i64 a3] w fun e w' => e = .returned (.bool true) ∧ Below w.heap.size w w' := by
  have AWH : Hid (∀ W : World, Calls Try.prog 16 #[] W fun e w' => e = .returned (.bool true) ∧ Below W.heap.size W w') := fun W => awake_any W
  have TD : Hid (Calls Try.prog 9 #[.slice p0 n0 c0] w fun e w' => ∃ p' c', e = .returned (.slice p' (toldL A0 (min n0 70)).length c') ∧ IsL w' w.heap.size p' (toldL A0 (min n0 70)) ∧ Below w.heap.size w w') := told_any p0 n0 c0 A0 m0 w H0
  have LM : (toldL A0 (min n0 70)).length ≤ 70 := by rw [told_len]; omega
  have NM := told_num A0 (min n0 70)
  obtain ⟨M, hM⟩ : ∃ M, toldL A0 (min n0 70) = M := ⟨_, rfl⟩
  rw [hM] at TD LM NM
  clear hM H0
  obtain ⟨i, hi⟩ : ∃ x, a1.tmod 1099511627776 = x := ⟨_, rfl⟩
  obtain ⟨f, hf⟩ : ∃ x, a2.tmod 1099511627776 = x := ⟨_, rfl⟩
  obtain ⟨t, ht⟩ : ∃ x, a3.tmod 1099511627776 = x := ⟨_, rfl⟩
  have OC : Hid (∀ (p : Option Addr) (c : Nat) (W : World), IsL W 0 p M → Calls Try.prog 11 #[.slice p M.length c] W fun e w' => ∃ p' c', e = .returned (.slice p' M.length c') ∧ M.length ≤ c' ∧ IsL w' W.heap.size p' M ∧ Below W.heap.size W w') := fun p c W h => of_any 0 p c M (by omega) W h
  have FC : Hid (∀ (p : Option Addr) (c : Nat) (W : World), IsL W 0 p M → Calls Try.prog 19 #[.slice p M.length c, .int .i64 i] W fun e w' => e = .returned (.tuple #[(findR M i).1.val, .bool (findR M i).2]) ∧ Below W.heap.size W w') := fun p c W h => find_any 0 p c M (by omega) i W h
  have RC : Hid (∀ (p : Option Addr) (c : Nat) (W : World), IsL W 0 p M → Calls Try.prog 20 #[.slice p M.length c, .int .i64 i] W fun e w' => e = .returned (.tuple #[(findR M i).1.val, .bool (findR M i).2]) ∧ Below W.heap.size W w') := fun p c W h => findr_any 0 p c M (by omega) i W h
  have GC : Hid (∀ (p : Option Addr) (c : Nat) (W : World), IsL W 0 p M → Calls Try.prog 21 #[.slice p M.length c] W fun e w' => e = .returned (.bool (goodB M)) ∧ Below W.heap.size W w') := fun p c W h => good_any 0 p c M (by omega) W h
  have HC : Hid (∀ (p : Option Addr) (c : Nat) (W : World), IsL W 0 p M → Calls Try.prog 22 #[.slice p M.length c] W fun e w' => e = .returned (.bool (goodB M)) ∧ Below W.heap.size W w') := fun p c W h => goodr_any 0 p c M (by omega) W h
  have CC : Hid (∀ (p : Option Addr) (c : Nat) (W : World), IsL W 0 p M → Calls Try.prog 23 #[.slice p M.length c, .agg #[.int .i64 f, .int .i64 t]] W fun e w' => e = .returned (.int .i64 (cntR f t M)) ∧ Below W.heap.size W w') := fun p c W h => count_any 0 p c M (by omega) NM f t W h
  have DC : Hid (∀ (p : Option Addr) (c : Nat) (W : World), IsL W 0 p M → Calls Try.prog 24 #[.slice p M.length c, .int .i64 f, .int .i64 t] W fun e w' => e = .returned (.int .i64 (cntR f t M)) ∧ Below W.heap.size W w') := fun p c W h => countr_any 0 p c M (by omega) NM f t W h
  obtain ⟨⟨⟨f1, f2, f3, f4, f5, f6⟩, ok⟩, hff⟩ : ∃ ff, findR M i = ff := ⟨_, rfl⟩
  rw [hff] at FC RC
  simp only at FC RC
  generalize goodB M = gd at GC HC
  generalize cntR f t M = z at CC DC
  obtain ⟨n, hn⟩ : ∃ n, M.length = n := ⟨_, rfl⟩
  have ONE : Hid (∀ W : World, Calls Try.prog 12 #[.agg #[.int .i64 f1, .int .i64 f2, .bool f3, .bool f4, .bool f5, .int .i64 f6]] W fun e w' => e = .returned (.agg #[.int .i64 f1, .int .i64 f2, .bool f3, .bool f4, .bool f5, .int .i64 f6]) ∧ Below W.heap.size W w') := fun W => one_any ⟨f1, f2, f3, f4, f5, f6⟩ W
  rw [hn] at TD OC FC RC GC HC CC DC LM
  have LI : (n : Int) ≤ 70 := by omega
  clear hff NM hn
  go_enter Try.func4, Try.ntmps4
  go_wp2_with fail
  refine TD.out.mono ?_
  rintro e u1 ⟨p1, c1, rfl, i1, hb⟩
  have Bu1 : Hid (Below w.heap.size w u1) := hb
  have Iu1 : Hid (IsL u1 0 p1 M) := i1.weak (Nat.zero_le _)
  clear i1 hb TD
  go_wp2_with fail
  refine (OC.out _ _ _ Iu1.out).mono ?_
  rintro e u2 ⟨p2, c2, rfl, _, i2, hb⟩
  have Bu2 : Hid (Below w.heap.size w u2) := below_then Bu1.out hb
  have Iu2 : Hid (IsL u2 0 p1 M) := Iu1.out.below hb
  have J2 : Hid (IsL u2 0 p2 M) := i2.weak (Nat.zero_le _)
  clear i2 hb Bu1 Iu1
  go_wp2_with fail
  refine (FC.out _ _ _ J2.out).mono ?_
  rintro e u3 ⟨rfl, hb⟩
  have Bu3 : Hid (Below w.heap.size w (u3.alloc (.cells #[.int .i64 f1, .int .i64 f2, .bool f3, .bool f4, .bool f5, .int .i64 f6] 37))) := below_new (below_then Bu2.out hb) _
  have Iu3 : Hid (IsL (u3.alloc (.cells #[.int .i64 f1, .int .i64 f2, .bool f3, .bool f4, .bool f5, .int .i64 f6] 37)) 0 p1 M) := (Iu2.out.below hb).below (Go.Joins.below_alloc1 _ _)
  clear hb Bu2 Iu2 J2
  go_wp2_with fail
  refine (RC.out _ _ _ Iu3.out).mono ?_
  rintro e u4 ⟨rfl, hb⟩
  have XA : Hid ((u4.alloc (.cells #[.int .i64 f1, .int .i64 f2, .bool f3, .bool f4, .bool f5, .int .i64 f6] 31)).heap[u3.heap.size]? = some (.cells #[.int .i64 f1, .int .i64 f2, .bool f3, .bool f4, .bool f5, .int .i64 f6] 37 (0, 0))) := ((Go.Joins.below_alloc1 _ _).block _ (Nat.lt_of_lt_of_le (by rw [World.size_alloc]; omega) hb.size)).trans ((hb.block _ (by rw [World.size_alloc]; omega)).trans (own1 u3 _))
  have XB : Hid ((u4.alloc (.cells #[.int .i64 f1, .int .i64 f2, .bool f3, .bool f4, .bool f5, .int .i64 f6] 31)).heap[u4.heap.size]? = some (.cells #[.int .i64 f1, .int .i64 f2, .bool f3, .bool f4, .bool f5, .int .i64 f6] 31 (0, 0))) := own1 u4 _
  have BW : Hid (Below w.heap.size w (u4.alloc (.cells #[.int .i64 f1, .int .i64 f2, .bool f3, .bool f4, .bool f5, .int .i64 f6] 31))) := below_new (below_then Bu3.out hb) _
  have IW : Hid (IsL (u4.alloc (.cells #[.int .i64 f1, .int .i64 f2, .bool f3, .bool f4, .bool f5, .int .i64 f6] 31)) 0 p1 M) := (Iu3.out.below hb).below (Go.Joins.below_alloc1 _ _)
  clear hb Bu3 Iu3
  go_wp2_with fail
  generalize u3.heap.size = qa at XA ⊢
  generalize u4.heap.size = qb at XB ⊢
  generalize u4.alloc (.cells #[.int .i64 f1, .int .i64 f2, .bool f3, .bool f4, .bool f5, .int .i64 f6] 31) = u5 at XA XB BW IW ⊢
  refine wp_region_noPanic ?_
  refine wp_region_held_drew (S := fun c => c.heap[qa]? = some (.cells #[.int .i64 f1, .int .i64 f2, .bool f3, .bool f4, .bool f5, .int .i64 f6] 37 (0, 0)) ∧ c.heap[qb]? = some (.cells #[.int .i64 f1, .int .i64 f2, .bool f3, .bool f4, .bool f5, .int .i64 f6] 31 (0, 0))) (by kernel_rfl) ?_ (fun hHeld => ?_)
  · exact ⟨XA.out, XB.out⟩
  have BU : Hid (Below w.heap.size w u5.drew) := ⟨BW.out.os, BW.out.tape, BW.out.output, BW.out.size, BW.out.block⟩
  have IU : Hid (IsL u5.drew 0 p1 M) := IW.out
  have XU : Hid (u5.drew.heap[qa]? = some (.cells #[.int .i64 f1, .int .i64 f2, .bool f3, .bool f4, .bool f5, .int .i64 f6] 37 (0, 0)) ∧ u5.drew.heap[qb]? = some (.cells #[.int .i64 f1, .int .i64 f2, .bool f3, .bool f4, .bool f5, .int .i64 f6] 31 (0, 0))) := ⟨XA.out, XB.out⟩
  clear XA XB BW IW
  generalize u5.drew = U at BU IU XU hHeld ⊢
  refine wpAnyH_ready (rs := [0]) (by kernel_rfl) (by simp) ?_
  refine AllReadyH.cons (o := ⟨some 35, _, _, _, _, none⟩) rfl (fun K hK => ?_) AllReadyH.nil
  go_simp
  go_wp2_with (go_at_call 16; refine (AWH.out _).mono ?_; rintro e v1 ⟨rfl, hb⟩)
  have Bv1 : Hid (Below w.heap.size w v1) := below_then BU.out hb
  have Iv1 : Hid (IsL v1 0 p1 M) := IU.out.below hb
  have Xv1 : Hid (v1.heap[qa]? = some (.cells #[.int .i64 f1, .int .i64 f2, .bool f3, .bool f4, .bool f5, .int .i64 f6] 37 (0, 0)) ∧ v1.heap[qb]? = some (.cells #[.int .i64 f1, .int .i64 f2, .bool f3, .bool f4, .bool f5, .int .i64 f6] 31 (0, 0))) := ⟨(hb.block _ (blk_lt XU.out.1)).trans XU.out.1, (hb.block _ (blk_lt XU.out.2)).trans XU.out.2⟩
  clear hb hHeld BU IU XU
  refine hK.out _ _ Xv1.out (fun hHeld => ?_)
  clear hK K
  try simp only [Act.put, List.setIfInBounds_toArray, List.set_cons_zero, List.set_cons_succ]
  refine wpAnyH_take (i := 1) (oi := ⟨some 36, _, _, _, _, none⟩) (v := .bool false) rfl (by kernel_rfl) (by kernel_rfl) (by kernel_rfl) (fun _ _ _ h => h) (Or.inl ⟨by rfl, ?_⟩) (by assumption) ?_
  · intro w hSw; (try dsimp only at hSw); go_simp; (try simp); (try (simp only [IntKind.wrap_i64]; omega))
  try simp only [Act.put, List.setIfInBounds_toArray, List.set_cons_zero, List.set_cons_succ]
  refine wpAnyH_take (i := 2) (oi := ⟨some 37, _, _, _, _, none⟩) (v := ?_) rfl (by kernel_rfl) (by kernel_rfl) (by kernel_rfl) (fun _ _ _ h => h) (Or.inl ⟨by rfl, ?_⟩) (by assumption) ?_
  rotate_left
  · intro w hSw; (try dsimp only at hSw); go_simp; (try with_reducible rfl)
  try simp only [Act.put, List.setIfInBounds_toArray, List.set_cons_zero, List.set_cons_succ]
  refine wpAnyH_take (i := 3) (oi := ⟨some 38, _, _, _, _, some (2, false)⟩) (v := ?_) rfl (by kernel_rfl) (by kernel_rfl) (by kernel_rfl) (fun _ _ _ h => h) (Or.inl ⟨by rfl, ?_⟩) (by assumption) ?_
  rotate_left
  · intro w hSw; (try dsimp only at hSw); go_simp; (try with_reducible rfl)
  try simp only [Act.put, List.setIfInBounds_toArray, List.set_cons_zero, List.set_cons_succ]
  refine wpAnyH_take (i := 6) (oi := ⟨some 41, _, _, _, _, some (2, false)⟩) (v := ?_) rfl (by kernel_rfl) (by kernel_rfl) (by kernel_rfl) (fun _ _ _ h => h) (Or.inl ⟨by rfl, ?_⟩) (by assumption) ?_
  rotate_left
  · intro w hSw; (try dsimp only at hSw); go_simp; (try with_reducible rfl)
  try simp only [Act.put, List.setIfInBounds_toArray, List.set_cons_zero, List.set_cons_succ]
  refine wpAnyH_ready (rs := [4]) (by kernel_rfl) (by simp) ?_
  refine AllReadyH.cons (o := ⟨some 39, _, _, _, _, some (2, false)⟩) rfl (fun K hK => ?_) AllReadyH.nil
  go_simp
  go_wp2_with (go_at_call 11; refine (OC.out _ _ _ Iv1.out).mono ?_; rintro e v2 ⟨p6, c6, rfl, _, i6, hb⟩)
  have Bv2 : Hid (Below w.heap.size w v2) := below_then Bv1.out hb
  have Iv2 : Hid (IsL v2 0 p1 M) := Iv1.out.below hb
  have Xv2 : Hid (v2.heap[qa]? = some (.cells #[.int .i64 f1, .int .i64 f2, .bool f3, .bool f4, .bool f5, .int .i64 f6] 37 (0, 0)) ∧ v2.heap[qb]? = some (.cells #[.int .i64 f1, .int .i64 f2, .bool f3, .bool f4, .bool f5, .int .i64 f6] 31 (0, 0))) := ⟨(hb.block _ (blk_lt Xv1.out.1)).trans Xv1.out.1, (hb.block _ (blk_lt Xv1.out.2)).trans Xv1.out.2⟩
  have J6 : Hid (IsL v2 0 p6 M) := i6.weak (Nat.zero_le _)
  clear i6
  clear hb hHeld Bv1 Iv1 Xv1
  refine hK.out _ _ Xv2.out (fun hHeld => ?_)
  clear hK K
  try simp only [Act.put, List.setIfInBounds_toArray, List.set_cons_zero, List.set_cons_succ]
  refine wpAnyH_ready (rs := [5]) (by kernel_rfl) (by simp) ?_
  refine AllReadyH.cons (o := ⟨some 40, _, _, _, _, some (2, false)⟩) rfl (fun K hK => ?_) AllReadyH.nil
  go_simp
  go_wp2_with (go_at_call 21; refine (GC.out _ _ _ J6.out).mono ?_; rintro e v3 ⟨rfl, hb⟩)
  have Bv3 : Hid (Below w.heap.size w v3) := below_then Bv2.out hb
  have Iv3 : Hid (IsL v3 0 p1 M) := Iv2.out.below hb
  have Xv3 : Hid (v3.heap[qa]? = some (.cells #[.int .i64 f1, .int .i64 f2, .bool f3, .bool f4, .bool f5, .int .i64 f6] 37 (0, 0)) ∧ v3.heap[qb]? = some (.cells #[.int .i64 f1, .int .i64 f2, .bool f3, .bool f4, .bool f5, .int .i64 f6] 31 (0, 0))) := ⟨(hb.block _ (blk_lt Xv2.out.1)).trans Xv2.out.1, (hb.block _ (blk_lt Xv2.out.2)).trans Xv2.out.2⟩
  clear hb hHeld Bv2 Iv2 Xv2
  refine hK.out _ _ Xv3.out (fun hHeld => ?_)
  clear hK K
  try simp only [Act.put, List.setIfInBounds_toArray, List.set_cons_zero, List.set_cons_succ]
  refine wpAnyH_ready (rs := [7]) (by kernel_rfl) (by simp) ?_
  refine AllReadyH.cons (o := ⟨some 42, _, _, _, _, some (2, false)⟩) rfl (fun K hK => ?_) AllReadyH.nil
  go_simp
  go_wp2_with (go_at_call 22; refine (HC.out _ _ _ Iv3.out).mono ?_; rintro e v4 ⟨rfl, hb⟩)
  have Bv4 : Hid (Below w.heap.size w v4) := below_then Bv3.out hb
  have Iv4 : Hid (IsL v4 0 p1 M) := Iv3.out.below hb
  have Xv4 : Hid (v4.heap[qa]? = some (.cells #[.int .i64 f1, .int .i64 f2, .bool f3, .bool f4, .bool f5, .int .i64 f6] 37 (0, 0)) ∧ v4.heap[qb]? = some (.cells #[.int .i64 f1, .int .i64 f2, .bool f3, .bool f4, .bool f5, .int .i64 f6] 31 (0, 0))) := ⟨(hb.block _ (blk_lt Xv3.out.1)).trans Xv3.out.1, (hb.block _ (blk_lt Xv3.out.2)).trans Xv3.out.2⟩
  clear hb hHeld Bv3 Iv3 Xv3
  refine hK.out _ _ Xv4.out (fun hHeld => ?_)
  clear hK K
  try simp only [Act.put, List.setIfInBounds_toArray, List.set_cons_zero, List.set_cons_succ]
  refine wpAnyH_take (i := 8) (oi := ⟨some 43, _, _, _, _, some (2, false)⟩) (v := .bool false) rfl (by kernel_rfl) (by kernel_rfl) (by kernel_rfl) (fun _ _ _ h => h) (Or.inl ⟨by rfl, ?_⟩) (by assumption) ?_
  · intro w hSw; (try dsimp only at hSw); go_simp; (try simp); (try (simp only [IntKind.wrap_i64]; omega))
  try simp only [Act.put, List.setIfInBounds_toArray, List.set_cons_zero, List.set_cons_succ]
  refine wpAnyH_take (i := 9) (oi := ⟨some 44, _, _, _, _, none⟩) (v := .bool false) rfl (by kernel_rfl) (by kernel_rfl) (by kernel_rfl) (fun _ _ _ h => h) (Or.inl ⟨by rfl, ?_⟩) (by assumption) ?_
  · intro w hSw; (try dsimp only at hSw); go_simp; (try simp); (try (simp only [IntKind.wrap_i64]; omega))
  try simp only [Act.put, List.setIfInBounds_toArray, List.set_cons_zero, List.set_cons_succ]
  refine wpAnyH_take (i := 10) (oi := ⟨some 45, _, _, _, _, none⟩) (v := ?_) rfl (by kernel_rfl) (by kernel_rfl) (by kernel_rfl) (fun _ _ _ h => h) (Or.inl ⟨by rfl, ?_⟩) (by assumption) ?_
  rotate_left
  · intro w hSw; (try dsimp only at hSw); go_simp; (try with_reducible rfl)
  try simp only [Act.put, List.setIfInBounds_toArray, List.set_cons_zero, List.set_cons_succ]
  refine wpAnyH_take (i := 11) (oi := ⟨some 46, _, _, _, _, some (10, false)⟩) (v := ?_) rfl (by kernel_rfl) (by kernel_rfl) (by kernel_rfl) (fun _ _ _ h => h) (Or.inl ⟨by rfl, ?_⟩) (by assumption) ?_
  rotate_left
  · intro w hSw; (try dsimp only at hSw); go_simp; (try with_reducible rfl)
  try simp only [Act.put, List.setIfInBounds_toArray, List.set_cons_zero, List.set_cons_succ]
  refine wpAnyH_take (i := 12) (oi := ⟨some 47, _, _, _, _, some (10, false)⟩) (v := ?_) rfl (by kernel_rfl) (by kernel_rfl) (by kernel_rfl) (fun _ _ _ h => h) (Or.inl ⟨by rfl, ?_⟩) (by assumption) ?_
  rotate_left
  · intro w hSw; (try dsimp only at hSw); go_simp; (try with_reducible rfl)
  try simp only [Act.put, List.setIfInBounds_toArray, List.set_cons_zero, List.set_cons_succ]
  refine wpAnyH_take (i := 13) (oi := ⟨some 48, _, _, _, _, some (10, false)⟩) (v := .bool false) rfl (by kernel_rfl) (by kernel_rfl) (by kernel_rfl) (fun _ _ _ h => h) (Or.inl ⟨by rfl, ?_⟩) (by assumption) ?_
  · intro w hSw; (try dsimp only at hSw); go_simp; (try simp); (try (simp only [IntKind.wrap_i64]; omega))
  try simp only [Act.put, List.setIfInBounds_toArray, List.set_cons_zero, List.set_cons_succ]
  refine wpAnyH_take (i := 14) (oi := ⟨some 49, _, _, _, _, none⟩) (v := .bool false) rfl (by kernel_rfl) (by kernel_rfl) (by kernel_rfl) (fun _ _ _ h => h) (Or.inl ⟨by rfl, ?_⟩) (by assumption) ?_
  · intro w hSw; (try dsimp only at hSw); go_simp; (try simp); (try (simp only [IntKind.wrap_i64]; omega))
  try simp only [Act.put, List.setIfInBounds_toArray, List.set_cons_zero, List.set_cons_succ]
  refine wpAnyH_take (i := 15) (oi := ⟨some 50, _, _, _, _, none⟩) (v := ?_) rfl (by kernel_rfl) (by kernel_rfl) (by kernel_rfl) (fun _ _ _ h => h) (Or.inl ⟨by rfl, ?_⟩) (by assumption) ?_
  rotate_left
  · intro w hSw; (try dsimp only at hSw); go_simp; (try with_reducible rfl)
  try simp only [Act.put, List.setIfInBounds_toArray, List.set_cons_zero, List.set_cons_succ]
  refine wpAnyH_take (i := 16) (oi := ⟨some 51, _, _, _, _, some (15, false)⟩) (v := .agg #[.int .i64 f1, .int .i64 f2, .bool f3, .bool f4, .bool f5, .int .i64 f6]) rfl (by kernel_rfl) (by kernel_rfl) (by kernel_rfl) (fun _ _ _ h => h) (Or.inl ⟨by rfl, ?_⟩) (by assumption) ?_
  · intro w hSw; (try dsimp only at hSw); have q0 : w.cell? ⟨qa, 0, none⟩ = some (.int .i64 f1) := Go.Joins.cell_of_block hSw.1 0; have q1 : w.cell? ⟨qa, 1, none⟩ = some (.int .i64 f2) := Go.Joins.cell_of_block hSw.1 1; have q2 : w.cell? ⟨qa, 2, none⟩ = some (.bool f3) := Go.Joins.cell_of_block hSw.1 2; have q3 : w.cell? ⟨qa, 3, none⟩ = some (.bool f4) := Go.Joins.cell_of_block hSw.1 3; have q4 : w.cell? ⟨qa, 4, none⟩ = some (.bool f5) := Go.Joins.cell_of_block hSw.1 4; have q5 : w.cell? ⟨qa, 5, none⟩ = some (.int .i64 f6) := Go.Joins.cell_of_block hSw.1 5; go_simp; (try simp)
  try simp only [Act.put, List.setIfInBounds_toArray, List.set_cons_zero, List.set_cons_succ]
  refine wpAnyH_take (i := 17) (oi := ⟨some 52, _, _, _, _, some (15, false)⟩) (v := .agg #[.int .i64 f1, .int .i64 f2, .bool f3, .bool f4, .bool f5, .int .i64 f6]) rfl (by kernel_rfl) (by kernel_rfl) (by kernel_rfl) (fun _ _ _ h => h) (Or.inl ⟨by rfl, ?_⟩) (by assumption) ?_
  · intro w hSw; (try dsimp only at hSw); have q0 : w.cell? ⟨qb, 0, none⟩ = some (.int .i64 f1) := Go.Joins.cell_of_block hSw.2 0; have q1 : w.cell? ⟨qb, 1, none⟩ = some (.int .i64 f2) := Go.Joins.cell_of_block hSw.2 1; have q2 : w.cell? ⟨qb, 2, none⟩ = some (.bool f3) := Go.Joins.cell_of_block hSw.2 2; have q3 : w.cell? ⟨qb, 3, none⟩ = some (.bool f4) := Go.Joins.cell_of_block hSw.2 3; have q4 : w.cell? ⟨qb, 4, none⟩ = some (.bool f5) := Go.Joins.cell_of_block hSw.2 4; have q5 : w.cell? ⟨qb, 5, none⟩ = some (.int .i64 f6) := Go.Joins.cell_of_block hSw.2 5; go_simp; (try simp)
  try simp only [Act.put, List.setIfInBounds_toArray, List.set_cons_zero, List.set_cons_succ]
  refine wpAnyH_ready (rs := [18]) (by kernel_rfl) (by simp) ?_
  refine AllReadyH.cons (o := ⟨some 53, _, _, _, _, some (15, false)⟩) rfl (fun K hK => ?_) AllReadyH.nil
  go_simp
  go_wp2_with (go_at_call 12; refine (ONE.out _).mono ?_; rintro e v5 ⟨rfl, hb⟩)
  have Bv5 : Hid (Below w.heap.size w v5) := below_then Bv4.out hb
  have Iv5 : Hid (IsL v5 0 p1 M) := Iv4.out.below hb
  have Xv5 : Hid (v5.heap[qa]? = some (.cells #[.int .i64 f1, .int .i64 f2, .bool f3, .bool f4, .bool f5, .int .i64 f6] 37 (0, 0)) ∧ v5.heap[qb]? = some (.cells #[.int .i64 f1, .int .i64 f2, .bool f3, .bool f4, .bool f5, .int .i64 f6] 31 (0, 0))) := ⟨(hb.block _ (blk_lt Xv4.out.1)).trans Xv4.out.1, (hb.block _ (blk_lt Xv4.out.2)).trans Xv4.out.2⟩
  clear hb hHeld Bv4 Iv4 Xv4
  refine hK.out _ _ Xv5.out (fun hHeld => ?_)
  clear hK K
  try simp only [Act.put, List.setIfInBounds_toArray, List.set_cons_zero, List.set_cons_succ]
  refine wpAnyH_take (i := 19) (oi := ⟨some 54, _, _, _, _, some (15, false)⟩) (v := .bool false) rfl (by kernel_rfl) (by kernel_rfl) (by kernel_rfl) (fun _ _ _ h => h) (Or.inl ⟨by rfl, ?_⟩) (by assumption) ?_
  · intro w hSw; (try dsimp only at hSw); go_simp; (try simp); (try (simp only [IntKind.wrap_i64]; omega))
  try simp only [Act.put, List.setIfInBounds_toArray, List.set_cons_zero, List.set_cons_succ]
  refine wpAnyH_take (i := 20) (oi := ⟨some 55, _, _, _, _, none⟩) (v := .bool false) rfl (by kernel_rfl) (by kernel_rfl) (by kernel_rfl) (fun _ _ _ h => h) (Or.inl ⟨by rfl, ?_⟩) (by assumption) ?_
  · intro w hSw; (try dsimp only at hSw); go_simp; (try simp); (try (simp only [IntKind.wrap_i64]; omega))
  try simp only [Act.put, List.setIfInBounds_toArray, List.set_cons_zero, List.set_cons_succ]
  clear hHeld
  refine wpAnyH_done (by kernel_rfl) ?_ _
  refine NoPanic.normal ?_
  go_wp2_with fail
  refine (OC.out _ _ _ Iv5.out).mono ?_
  rintro e v6 ⟨p8, c8, rfl, _, i8, hb⟩
  have B6 : Hid (Below w.heap.size w v6) := below_then Bv5.out hb
  have I6 : Hid (IsL v6 0 p1 M) := Iv5.out.below hb
  have J8 : Hid (IsL v6 0 p8 M) := i8.weak (Nat.zero_le _)
  clear i8 hb Bv5 Iv5 Xv5
  go_wp2_with fail
  refine (CC.out _ _ _ J8.out).mono ?_
  rintro e v7 ⟨rfl, hb⟩
  have B7 : Hid (Below w.heap.size w v7) := below_then B6.out hb
  have I7 : Hid (IsL v7 0 p1 M) := I6.out.below hb
  clear hb B6 I6 J8
  go_wp2_with fail
  refine (DC.out _ _ _ I7.out).mono ?_
  rintro e v8 ⟨rfl, hb⟩
  have B8 : Hid (Below w.heap.size w v8) := below_then B7.out hb
  clear hb B7 I7
  go_wp2_with fail
  go_ret
  exact ⟨by first | rfl | simp, B8.out⟩

theorem own : ownKnob Try.prog.godebug = none := by kernel_rfl
theorem laidOut : laidOutB Try.prog = true := by kernel_rfl
set_option maxRecDepth 100000 in
theorem lifted (os : Os) (started : os.Started) (H : Type) (enc : TypeId × Value → H) :
    ReturnsInHanded {} Try.checked os 4 .any (Rows.regionLooksSpec.pre6 enc Try.prog Try.f4 Rows.regionLooksRow.domain false) (Rows.regionLooksSpec.post enc Try.prog Try.f4 false true false false) := by
  refine returnsInHanded_of_change (C := Try.checked) own started (by kernel_rfl) Try.func4
    (ChangeSpec.witness6 (enc := enc) (C := Try.checked) false ⟨#[], #[.slice none 0 0, .int .i64 0, .int .i64 0, .int .i64 0], []⟩ 8 (by kernel_rfl) (by kernel_rfl) (by kernel_rfl) (by kernel_rfl)) ?_
  intro W base args ds gs before hval0 hW hcnd _
  have hval : ∀ (j : Nat) t v, Try.f4.params[j]? = some t → args[j]? = some v → Value.okWide Try.prog W .any base t v := hval0
  have hW' := hW
  obtain ⟨p, q, hA0, hV, hbef, hfz, hnd⟩ := hW
  have hA : DataW.TrodAll enc Try.prog W 0 (fun _ => true) true Try.f4.params.toList args.toList ds p := hA0
  have hAk := hA
  have hlt : ∀ x ∈ p, x.block < W.heap.size := fun x hx => hW'.lt x (by rw [hbef]; exact List.mem_append_left _ hx)
  rw [Try.params4] at hA hval
  obtain ⟨v0, vs0, d0, ds0, p0, q0, hargs, rfl, hp0, h0, r0⟩ := trodAll_cons hA
  obtain ⟨v1, vs1, d1, ds1, p1, q1, rfl, rfl, hp1, h1, r1⟩ := trodAll_cons r0
  obtain ⟨v2, vs2, d2, ds2, p2, q2, rfl, rfl, hp2, h2, r2⟩ := trodAll_cons r1
  obtain ⟨v3, vs3, d3, ds3, p3, q3, rfl, rfl, hp3, h3, r3⟩ := trodAll_cons r2
  obtain ⟨rfl, rfl, hpz⟩ := trodAll_nil r3
  obtain rfl : args = #[v0, v1, v2, v3] := by cases args; simp_all
  obtain ⟨rfl, rfl⟩ := trodVars_none hV
  obtain ⟨p0, n0, c0, A0, rfl, m0, H0⟩ := open_list (hval 0 23 v0 rfl rfl) h0
  obtain ⟨a1, rfl, _, _, w1⟩ := open_int Try.underlying3 (hval 1 3 v1 rfl rfl) h1
  obtain ⟨a2, rfl, _, _, w2⟩ := open_int Try.underlying3 (hval 2 3 v2 rfl rfl) h2
  obtain ⟨a3, rfl, _, _, w3⟩ := open_int Try.underlying3 (hval 3 3 v3 rfl rfl) h3
  clear hA0 hval0
  refine (walk p0 n0 c0 A0 m0 a1 w1 a2 w2 a3 w3 W H0).mono fun e W' ⟨he, hg⟩ => ?_
  subst he
  exact ⟨_, rfl, ⟨_, _, _, [], p, [], hW', (trodAll_cons_mk (shut_bool Try.underlying4 _) trodAll_mk0), args_stay laidOut hg (by kernel_rfl) hAk hlt, rfl, hg.frame _, fun h => by cases h⟩⟩

theorem over : Rows.regionLooksRow.holds Try.pinned (OpenSpec.ofChange Rows.regionLooksSpec) :=
  OpenClaim.holds_of_wide 4 Try.f4 rfl rfl rfl rfl rfl rfl rfl ⟨rfl, rfl, rfl, rfl, rfl⟩ rfl rfl rfl rfl rfl (by kernel_rfl) Try.func4 (by kernel_rfl)
    (of_decide_eq_true (by kernel_rfl)) (by unfold Func.isWrapper; first | (rw [if_pos (by decide +kernel)]; kernel_rfl) | (rw [if_neg (by decide +kernel)]; exact ⟨rfl, rfl⟩))
    (fun os started H enc _ => lifted os started H enc)

theorem proved : Rows.RegionLooksSaid :=
  over
#print axioms proved
end Go.Proofs.Ytngaodfajihmmaa.regionLooks
