/- Words of a call: the call, op by op. -/
import Derived.Test.YtccbacjiiffheaaC3
namespace Go.Proofs.Ytccbacjiiffheaa
open Go.ChangeShapes Go.WideShapes Go.ChangeAt Go.RowKit Go.Maps
set_option linter.unusedSimpArgs false
set_option linter.unusedVariables false

set_option maxHeartbeats 4000000 in
theorem call1 (b : Nat) (W : Wd) (hw : W.wf) (h0 : W.at 0 = 1) (l1 : (pagesOk (W.at 1) (W.at 2))) (l2 : (W.at 3 < 4)) (w : World) (h : IsR w b W 0) : Calls Try.prog 22 #[.pointer (some ⟨b, 0, none⟩)] w fun e w' => e = .returned (.agg #[.int .i64 1, .int .i64 (W.at 1), .int .i64 (W.at 1 + W.at 2), .bool (permW (W.at 3)), .bool true, .bool (permX (W.at 3)), .int .u64 0, .int .i64 0, .int .u64 0, .int .i64 0, .int .i64 0, .int .i64 0, .int .i64 0]) ∧ IsR w' b W 4 ∧ Kb b w w' := by
  have N0 : Hid (∀ w : World, IsR w b W (0) → Calls Try.prog 30 #[.pointer (some ⟨b, 0, none⟩), .int .u64 17] w fun e w' => e = .returned (.int .i64 (W.at (0))) ∧ IsR w' b W (0 + 1) ∧ Kb b w w') := fun w h => number_yes b W (0) (by omega) hw 17 (by omega) (by omega) w h
  rw [h0] at N0
  have N1 : Hid (∀ w : World, IsR w b W (1) → Calls Try.prog 31 #[.pointer (some ⟨b, 0, none⟩)] w fun e w' => e = .returned (.agg #[.int .i64 (W.at 1), .int .i64 (W.at 1 + W.at 2)]) ∧ IsR w' b W (3) ∧ Kb b w w') := fun w h => pages_yes b W 1 (by omega) hw l1 w h
  have N2 : Hid (∀ w : World, IsR w b W (3) → Calls Try.prog 32 #[.pointer (some ⟨b, 0, none⟩)] w fun e w' => e = .returned (.agg #[.bool (permW (W.at 3)), .bool true, .bool (permX (W.at 3))]) ∧ IsR w' b W (4) ∧ Kb b w w') := fun w h => perm_yes b W 3 (by omega) hw l2 w h
  have p1 := (hw 1).1
  have H0 : Hid (IsR w b W 0) := h
  have lt0 := blk_lt h
  clear h hw h0
  generalize W.at 1 = x1 at *
  generalize W.at 2 = x2 at *
  generalize W.at 3 = x3 at *
  have A0 : Hid (IsR (w.alloc (.cells [.int .i64 0, .int .i64 0, .int .i64 0, .bool false, .bool false, .bool false, .int .u64 0, .int .i64 0, .int .u64 0, .int .i64 0, .int .i64 0, .int .i64 0, .int .i64 0].toArray 30)) b W 0) := H0.out.below (Go.Joins.below_alloc1 _ _)
  have Z0 : Hid (Blk (w.alloc (.cells [.int .i64 0, .int .i64 0, .int .i64 0, .bool false, .bool false, .bool false, .int .u64 0, .int .i64 0, .int .u64 0, .int .i64 0, .int .i64 0, .int .i64 0, .int .i64 0].toArray 30)) w.heap.size [.int .i64 0, .int .i64 0, .int .i64 0, .bool false, .bool false, .bool false, .int .u64 0, .int .i64 0, .int .u64 0, .int .i64 0, .int .i64 0, .int .i64 0, .int .i64 0] 30) := Blk.made w _ _
  have K0 : Hid (Kb b w (w.alloc (.cells [.int .i64 0, .int .i64 0, .int .i64 0, .bool false, .bool false, .bool false, .int .u64 0, .int .i64 0, .int .u64 0, .int .i64 0, .int .i64 0, .int .i64 0, .int .i64 0].toArray 30))) := kb_alloc b w _
  go_enter Try.func22, Try.ntmps22
  go_wp2_with fail
  refine (N0.out _ A0.out).mono ?_
  rintro e u0 ⟨rfl, h1, k1⟩
  have A1 : Hid (IsR u0 b W 1) := h1
  have K1 : Hid (Kb b w u0) := K0.out.trans k1
  have Z1 : Hid (Blk u0 w.heap.size [.int .i64 0, .int .i64 0, .int .i64 0, .bool false, .bool false, .bool false, .int .u64 0, .int .i64 0, .int .u64 0, .int .i64 0, .int .i64 0, .int .i64 0, .int .i64 0] 30) := Z0.out.kb k1 (by omega)
  clear h1 k1 A0 K0 Z0
  have y4 : w.heap.size < u0.heap.size := blk_lt Z1.out
  go_wp2_with fail
  have A2 : Hid (IsR (u0.alloc (.cells #[.int .i64 1, .int .i64 0, .int .i64 0, .bool false, .bool false, .bool false, .int .u64 0, .int .i64 0, .int .u64 0, .int .i64 0, .int .i64 0, .int .i64 0, .int .i64 0] 30)) b W 1) := A1.out.below (Go.Joins.below_alloc1 _ _)
  have K2 : Hid (Kb b w (u0.alloc (.cells #[.int .i64 1, .int .i64 0, .int .i64 0, .bool false, .bool false, .bool false, .int .u64 0, .int .i64 0, .int .u64 0, .int .i64 0, .int .i64 0, .int .i64 0, .int .i64 0] 30))) := K1.out.trans (kb_alloc b u0 _)
  have R2 : Hid (Blk (u0.alloc (.cells #[.int .i64 1, .int .i64 0, .int .i64 0, .bool false, .bool false, .bool false, .int .u64 0, .int .i64 0, .int .u64 0, .int .i64 0, .int .i64 0, .int .i64 0, .int .i64 0] 30)) w.heap.size [.int .i64 0, .int .i64 0, .int .i64 0, .bool false, .bool false, .bool false, .int .u64 0, .int .i64 0, .int .u64 0, .int .i64 0, .int .i64 0, .int .i64 0, .int .i64 0] 30) := Z1.out.below (Go.Joins.below_alloc1 _ _)
  have C2 : Hid (Blk (u0.alloc (.cells #[.int .i64 1, .int .i64 0, .int .i64 0, .bool false, .bool false, .bool false, .int .u64 0, .int .i64 0, .int .u64 0, .int .i64 0, .int .i64 0, .int .i64 0, .int .i64 0] 30)) u0.heap.size [.int .i64 1, .int .i64 0, .int .i64 0, .bool false, .bool false, .bool false, .int .u64 0, .int .i64 0, .int .u64 0, .int .i64 0, .int .i64 0, .int .i64 0, .int .i64 0] 30) := Blk.made u0 _ _
  refine (N1.out _ A2.out).mono ?_
  rintro e u1 ⟨rfl, h1, k1⟩
  have B2 : Hid (IsR u1 b W 3) := h1
  have J2 : Hid (Kb b w u1) := K2.out.trans k1
  have S2 : Hid (Blk u1 w.heap.size [.int .i64 0, .int .i64 0, .int .i64 0, .bool false, .bool false, .bool false, .int .u64 0, .int .i64 0, .int .u64 0, .int .i64 0, .int .i64 0, .int .i64 0, .int .i64 0] 30) := R2.out.kb k1 (by omega)
  have D2 : Hid (Blk u1 u0.heap.size [.int .i64 1, .int .i64 0, .int .i64 0, .bool false, .bool false, .bool false, .int .u64 0, .int .i64 0, .int .u64 0, .int .i64 0, .int .i64 0, .int .i64 0, .int .i64 0] 30) := C2.out.kb k1 (by omega)
  have ll2 : u0.heap.size < u1.heap.size := blk_lt D2.out
  clear h1 k1 A2 K2 R2 C2
  have c0_1 : u1.cell? ⟨u0.heap.size, 1, none⟩ = some (.int .i64 0) := D2.out.cell 1
  have f0_1 : u1.frozen? ⟨u0.heap.size, 1, none⟩ = false := D2.out.free 1
  have c0_2 : u1.cell? ⟨u0.heap.size, 2, none⟩ = some (.int .i64 0) := D2.out.cell 2
  have f0_2 : u1.frozen? ⟨u0.heap.size, 2, none⟩ = false := D2.out.free 2
  go_wp2_with fail
  have A3 : Hid (IsR ((u1.setCell ⟨u0.heap.size, 1, none⟩ (.int .i64 x1)).setCell ⟨u0.heap.size, 2, none⟩ (.int .i64 (x1 + x2))) b W 3) := ((B2.out.blk.far 1 (.int .i64 x1) (c := u0.heap.size) (by omega)).far 2 (.int .i64 (x1 + x2)) (c := u0.heap.size) (by omega))
  have K3 : Hid (Kb b w ((u1.setCell ⟨u0.heap.size, 1, none⟩ (.int .i64 x1)).setCell ⟨u0.heap.size, 2, none⟩ (.int .i64 (x1 + x2)))) := (kb_set (kb_set J2.out (by omega) 1 (.int .i64 x1)) (by omega) 2 (.int .i64 (x1 + x2)))
  have R3 : Hid (Blk ((u1.setCell ⟨u0.heap.size, 1, none⟩ (.int .i64 x1)).setCell ⟨u0.heap.size, 2, none⟩ (.int .i64 (x1 + x2))) w.heap.size [.int .i64 0, .int .i64 0, .int .i64 0, .bool false, .bool false, .bool false, .int .u64 0, .int .i64 0, .int .u64 0, .int .i64 0, .int .i64 0, .int .i64 0, .int .i64 0] 30) := ((S2.out.far 1 (.int .i64 x1) (by omega)).far 2 (.int .i64 (x1 + x2)) (by omega))
  have C3 : Hid (Blk ((u1.setCell ⟨u0.heap.size, 1, none⟩ (.int .i64 x1)).setCell ⟨u0.heap.size, 2, none⟩ (.int .i64 (x1 + x2))) u0.heap.size [.int .i64 1, .int .i64 x1, .int .i64 (x1 + x2), .bool false, .bool false, .bool false, .int .u64 0, .int .i64 0, .int .u64 0, .int .i64 0, .int .i64 0, .int .i64 0, .int .i64 0] 30) := ((D2.out.set 1 (.int .i64 x1)).set 2 (.int .i64 (x1 + x2)))
  refine (N2.out _ A3.out).mono ?_
  rintro e u2 ⟨rfl, h1, k1⟩
  have B3 : Hid (IsR u2 b W 4) := h1
  have J3 : Hid (Kb b w u2) := K3.out.trans k1
  have S3 : Hid (Blk u2 w.heap.size [.int .i64 0, .int .i64 0, .int .i64 0, .bool false, .bool false, .bool false, .int .u64 0, .int .i64 0, .int .u64 0, .int .i64 0, .int .i64 0, .int .i64 0, .int .i64 0] 30) := R3.out.kb k1 (by omega)
  have D3 : Hid (Blk u2 u0.heap.size [.int .i64 1, .int .i64 x1, .int .i64 (x1 + x2), .bool false, .bool false, .bool false, .int .u64 0, .int .i64 0, .int .u64 0, .int .i64 0, .int .i64 0, .int .i64 0, .int .i64 0] 30) := C3.out.kb k1 (by omega)
  have ll3 : u0.heap.size < u2.heap.size := blk_lt D3.out
  clear h1 k1 A3 K3 R3 C3
  have c1_3 : u2.cell? ⟨u0.heap.size, 3, none⟩ = some (.bool false) := D3.out.cell 3
  have f1_3 : u2.frozen? ⟨u0.heap.size, 3, none⟩ = false := D3.out.free 3
  have c1_4 : u2.cell? ⟨u0.heap.size, 4, none⟩ = some (.bool false) := D3.out.cell 4
  have f1_4 : u2.frozen? ⟨u0.heap.size, 4, none⟩ = false := D3.out.free 4
  have c1_5 : u2.cell? ⟨u0.heap.size, 5, none⟩ = some (.bool false) := D3.out.cell 5
  have f1_5 : u2.frozen? ⟨u0.heap.size, 5, none⟩ = false := D3.out.free 5
  go_upto_region 40 with fail
  have AV : Hid (IsR (((u2.setCell ⟨u0.heap.size, 3, none⟩ (.bool (permW x3))).setCell ⟨u0.heap.size, 4, none⟩ (.bool true)).setCell ⟨u0.heap.size, 5, none⟩ (.bool (permX x3))) b W 4) := (((B3.out.blk.far 3 (.bool (permW x3)) (c := u0.heap.size) (by omega)).far 4 (.bool true) (c := u0.heap.size) (by omega)).far 5 (.bool (permX x3)) (c := u0.heap.size) (by omega))
  have KV : Hid (Kb b w (((u2.setCell ⟨u0.heap.size, 3, none⟩ (.bool (permW x3))).setCell ⟨u0.heap.size, 4, none⟩ (.bool true)).setCell ⟨u0.heap.size, 5, none⟩ (.bool (permX x3)))) := (kb_set (kb_set (kb_set J3.out (by omega) 3 (.bool (permW x3))) (by omega) 4 (.bool true)) (by omega) 5 (.bool (permX x3)))
  have ZR : Hid (Blk (((u2.setCell ⟨u0.heap.size, 3, none⟩ (.bool (permW x3))).setCell ⟨u0.heap.size, 4, none⟩ (.bool true)).setCell ⟨u0.heap.size, 5, none⟩ (.bool (permX x3))) w.heap.size [.int .i64 0, .int .i64 0, .int .i64 0, .bool false, .bool false, .bool false, .int .u64 0, .int .i64 0, .int .u64 0, .int .i64 0, .int .i64 0, .int .i64 0, .int .i64 0] 30) := (((S3.out.far 3 (.bool (permW x3)) (by omega)).far 4 (.bool true) (by omega)).far 5 (.bool (permX x3)) (by omega))
  have ZV : Hid (Blk (((u2.setCell ⟨u0.heap.size, 3, none⟩ (.bool (permW x3))).setCell ⟨u0.heap.size, 4, none⟩ (.bool true)).setCell ⟨u0.heap.size, 5, none⟩ (.bool (permX x3))) u0.heap.size [.int .i64 1, .int .i64 x1, .int .i64 (x1 + x2), .bool (permW x3), .bool true, .bool (permX x3), .int .u64 0, .int .i64 0, .int .u64 0, .int .i64 0, .int .i64 0, .int .i64 0, .int .i64 0] 30) := (((D3.out.set 3 (.bool (permW x3))).set 4 (.bool true)).set 5 (.bool (permX x3)))
  generalize (((u2.setCell ⟨u0.heap.size, 3, none⟩ (.bool (permW x3))).setCell ⟨u0.heap.size, 4, none⟩ (.bool true)).setCell ⟨u0.heap.size, 5, none⟩ (.bool (permX x3))) = V at AV KV ZR ZV ⊢
  refine wp_region_lit ?_
  refine load_pat (u0.heap.size) 0 [.int .i64 1, .int .i64 x1, .int .i64 (x1 + x2), .bool (permW x3), .bool true, .bool (permX x3), .int .u64 0, .int .i64 0, .int .u64 0, .int .i64 0, .int .i64 0, .int .i64 0, .int .i64 0] _ rfl ZV.out.range Try.underlying30 rfl call_info ?_
  refine store_pat w.heap.size 0 #[.int .i64 1, .int .i64 x1, .int .i64 (x1 + x2), .bool (permW x3), .bool true, .bool (permX x3), .int .u64 0, .int .i64 0, .int .u64 0, .int .i64 0, .int .i64 0, .int .i64 0, .int .i64 0] rfl rfl ZR.out.there call_info (by simp [Value.oneCell']) ?_
  have RV : Hid ((V.setCells w.heap.size 0 ((#[.int .i64 1, .int .i64 x1, .int .i64 (x1 + x2), .bool (permW x3), .bool true, .bool (permX x3), .int .u64 0, .int .i64 0, .int .u64 0, .int .i64 0, .int .i64 0, .int .i64 0, .int .i64 0] : Array Value).toList)).rangeAt w.heap.size 0 [.int .i64 1, .int .i64 x1, .int .i64 (x1 + x2), .bool (permW x3), .bool true, .bool (permX x3), .int .u64 0, .int .i64 0, .int .u64 0, .int .i64 0, .int .i64 0, .int .i64 0, .int .i64 0]) := World.rangeAt_setCells_same _ w.heap.size 0 [.int .i64 1, .int .i64 x1, .int .i64 (x1 + x2), .bool (permW x3), .bool true, .bool (permX x3), .int .u64 0, .int .i64 0, .int .u64 0, .int .i64 0, .int .i64 0, .int .i64 0, .int .i64 0] (show V.there w.heap.size 0 13 from ZR.out.there)
  have AV2 : Hid (IsR (V.setCells w.heap.size 0 ((#[.int .i64 1, .int .i64 x1, .int .i64 (x1 + x2), .bool (permW x3), .bool true, .bool (permX x3), .int .u64 0, .int .i64 0, .int .u64 0, .int .i64 0, .int .i64 0, .int .i64 0, .int .i64 0] : Array Value).toList)) b W 4) := AV.out.scs (by omega) _ _
  have KV2 : Hid (Kb b w (V.setCells w.heap.size 0 ((#[.int .i64 1, .int .i64 x1, .int .i64 (x1 + x2), .bool (permW x3), .bool true, .bool (permX x3), .int .u64 0, .int .i64 0, .int .u64 0, .int .i64 0, .int .i64 0, .int .i64 0, .int .i64 0] : Array Value).toList))) := kb_scs KV.out (Nat.le_refl _) _ _
  generalize V.setCells w.heap.size 0 ((#[.int .i64 1, .int .i64 x1, .int .i64 (x1 + x2), .bool (permW x3), .bool true, .bool (permX x3), .int .u64 0, .int .i64 0, .int .u64 0, .int .i64 0, .int .i64 0, .int .i64 0, .int .i64 0] : Array Value).toList) = V2 at RV AV2 KV2 ⊢
  clear AV KV ZR ZV
  go_wp2_with fail
  have hr := run_loadVar_mid (P := Try.prog) V2 w.heap.size 0 30 [.int .i64 1, .int .i64 x1, .int .i64 (x1 + x2), .bool (permW x3), .bool true, .bool (permX x3), .int .u64 0, .int .i64 0, .int .u64 0, .int .i64 0, .int .i64 0, .int .i64 0, .int .i64 0] _ RV.out Try.underlying30 rfl call_info
  refine bodyPost_ret (v := .agg #[.int .i64 1, .int .i64 x1, .int .i64 (x1 + x2), .bool (permW x3), .bool true, .bool (permX x3), .int .u64 0, .int .i64 0, .int .u64 0, .int .i64 0, .int .i64 0, .int .i64 0, .int .i64 0]) ?_ rfl ⟨rfl, AV2.out, KV2.out⟩
  exact results_one Try.results22 _ _ _ _ _ rfl hr
set_option maxHeartbeats 4000000 in
theorem call2 (b : Nat) (W : Wd) (hw : W.wf) (h0 : W.at 0 = 2) (l1 : (pagesOk (W.at 1) (W.at 2))) (w : World) (h : IsR w b W 0) : Calls Try.prog 22 #[.pointer (some ⟨b, 0, none⟩)] w fun e w' => e = .returned (.agg #[.int .i64 2, .int .i64 (W.at 1), .int .i64 (W.at 1 + W.at 2), .bool false, .bool false, .bool false, .int .u64 0, .int .i64 0, .int .u64 0, .int .i64 0, .int .i64 0, .int .i64 0, .int .i64 0]) ∧ IsR w' b W 3 ∧ Kb b w w' := by
  have N0 : Hid (∀ w : World, IsR w b W (0) → Calls Try.prog 30 #[.pointer (some ⟨b, 0, none⟩), .int .u64 17] w fun e w' => e = .returned (.int .i64 (W.at (0))) ∧ IsR w' b W (0 + 1) ∧ Kb b w w') := fun w h => number_yes b W (0) (by omega) hw 17 (by omega) (by omega) w h
  rw [h0] at N0
  have N1 : Hid (∀ w : World, IsR w b W (1) → Calls Try.prog 31 #[.pointer (some ⟨b, 0, none⟩)] w fun e w' => e = .returned (.agg #[.int .i64 (W.at 1), .int .i64 (W.at 1 + W.at 2)]) ∧ IsR w' b W (3) ∧ Kb b w w') := fun w h => pages_yes b W 1 (by omega) hw l1 w h
  have p1 := (hw 1).1
  have H0 : Hid (IsR w b W 0) := h
  have lt0 := blk_lt h
  clear h hw h0
  generalize W.at 1 = x1 at *
  generalize W.at 2 = x2 at *
  have A0 : Hid (IsR (w.alloc (.cells [.int .i64 0, .int .i64 0, .int .i64 0, .bool false, .bool false, .bool false, .int .u64 0, .int .i64 0, .int .u64 0, .int .i64 0, .int .i64 0, .int .i64 0, .int .i64 0].toArray 30)) b W 0) := H0.out.below (Go.Joins.below_alloc1 _ _)
  have Z0 : Hid (Blk (w.alloc (.cells [.int .i64 0, .int .i64 0, .int .i64 0, .bool false, .bool false, .bool false, .int .u64 0, .int .i64 0, .int .u64 0, .int .i64 0, .int .i64 0, .int .i64 0, .int .i64 0].toArray 30)) w.heap.size [.int .i64 0, .int .i64 0, .int .i64 0, .bool false, .bool false, .bool false, .int .u64 0, .int .i64 0, .int .u64 0, .int .i64 0, .int .i64 0, .int .i64 0, .int .i64 0] 30) := Blk.made w _ _
  have K0 : Hid (Kb b w (w.alloc (.cells [.int .i64 0, .int .i64 0, .int .i64 0, .bool false, .bool false, .bool false, .int .u64 0, .int .i64 0, .int .u64 0, .int .i64 0, .int .i64 0, .int .i64 0, .int .i64 0].toArray 30))) := kb_alloc b w _
  go_enter Try.func22, Try.ntmps22
  go_wp2_with fail
  refine (N0.out _ A0.out).mono ?_
  rintro e u0 ⟨rfl, h1, k1⟩
  have A1 : Hid (IsR u0 b W 1) := h1
  have K1 : Hid (Kb b w u0) := K0.out.trans k1
  have Z1 : Hid (Blk u0 w.heap.size [.int .i64 0, .int .i64 0, .int .i64 0, .bool false, .bool false, .bool false, .int .u64 0, .int .i64 0, .int .u64 0, .int .i64 0, .int .i64 0, .int .i64 0, .int .i64 0] 30) := Z0.out.kb k1 (by omega)
  clear h1 k1 A0 K0 Z0
  have y4 : w.heap.size < u0.heap.size := blk_lt Z1.out
  go_wp2_with fail
  have A2 : Hid (IsR (u0.alloc (.cells #[.int .i64 2, .int .i64 0, .int .i64 0, .bool false, .bool false, .bool false, .int .u64 0, .int .i64 0, .int .u64 0, .int .i64 0, .int .i64 0, .int .i64 0, .int .i64 0] 30)) b W 1) := A1.out.below (Go.Joins.below_alloc1 _ _)
  have K2 : Hid (Kb b w (u0.alloc (.cells #[.int .i64 2, .int .i64 0, .int .i64 0, .bool false, .bool false, .bool false, .int .u64 0, .int .i64 0, .int .u64 0, .int .i64 0, .int .i64 0, .int .i64 0, .int .i64 0] 30))) := K1.out.trans (kb_alloc b u0 _)
  have R2 : Hid (Blk (u0.alloc (.cells #[.int .i64 2, .int .i64 0, .int .i64 0, .bool false, .bool false, .bool false, .int .u64 0, .int .i64 0, .int .u64 0, .int .i64 0, .int .i64 0, .int .i64 0, .int .i64 0] 30)) w.heap.size [.int .i64 0, .int .i64 0, .int .i64 0, .bool false, .bool false, .bool false, .int .u64 0, .int .i64 0, .int .u64 0, .int .i64 0, .int .i64 0, .int .i64 0, .int .i64 0] 30) := Z1.out.below (Go.Joins.below_alloc1 _ _)
  have C2 : Hid (Blk (u0.alloc (.cells #[.int .i64 2, .int .i64 0, .int .i64 0, .bool false, .bool false, .bool false, .int .u64 0, .int .i64 0, .int .u64 0, .int .i64 0, .int .i64 0, .int .i64 0, .int .i64 0] 30)) u0.heap.size [.int .i64 2, .int .i64 0, .int .i64 0, .bool false, .bool false, .bool false, .int .u64 0, .int .i64 0, .int .u64 0, .int .i64 0, .int .i64 0, .int .i64 0, .int .i64 0] 30) := Blk.made u0 _ _
  refine (N1.out _ A2.out).mono ?_
  rintro e u1 ⟨rfl, h1, k1⟩
  have B2 : Hid (IsR u1 b W 3) := h1
  have J2 : Hid (Kb b w u1) := K2.out.trans k1
  have S2 : Hid (Blk u1 w.heap.size [.int .i64 0, .int .i64 0, .int .i64 0, .bool false, .bool false, .bool false, .int .u64 0, .int .i64 0, .int .u64 0, .int .i64 0, .int .i64 0, .int .i64 0, .int .i64 0] 30) := R2.out.kb k1 (by omega)
  have D2 : Hid (Blk u1 u0.heap.size [.int .i64 2, .int .i64 0, .int .i64 0, .bool false, .bool false, .bool false, .int .u64 0, .int .i64 0, .int .u64 0, .int .i64 0, .int .i64 0, .int .i64 0, .int .i64 0] 30) := C2.out.kb k1 (by omega)
  have ll2 : u0.heap.size < u1.heap.size := blk_lt D2.out
  clear h1 k1 A2 K2 R2 C2
  have c0_1 : u1.cell? ⟨u0.heap.size, 1, none⟩ = some (.int .i64 0) := D2.out.cell 1
  have f0_1 : u1.frozen? ⟨u0.heap.size, 1, none⟩ = false := D2.out.free 1
  have c0_2 : u1.cell? ⟨u0.heap.size, 2, none⟩ = some (.int .i64 0) := D2.out.cell 2
  have f0_2 : u1.frozen? ⟨u0.heap.size, 2, none⟩ = false := D2.out.free 2
  go_upto_region 40 with fail
  have AV : Hid (IsR ((u1.setCell ⟨u0.heap.size, 1, none⟩ (.int .i64 x1)).setCell ⟨u0.heap.size, 2, none⟩ (.int .i64 (x1 + x2))) b W 3) := ((B2.out.blk.far 1 (.int .i64 x1) (c := u0.heap.size) (by omega)).far 2 (.int .i64 (x1 + x2)) (c := u0.heap.size) (by omega))
  have KV : Hid (Kb b w ((u1.setCell ⟨u0.heap.size, 1, none⟩ (.int .i64 x1)).setCell ⟨u0.heap.size, 2, none⟩ (.int .i64 (x1 + x2)))) := (kb_set (kb_set J2.out (by omega) 1 (.int .i64 x1)) (by omega) 2 (.int .i64 (x1 + x2)))
  have ZR : Hid (Blk ((u1.setCell ⟨u0.heap.size, 1, none⟩ (.int .i64 x1)).setCell ⟨u0.heap.size, 2, none⟩ (.int .i64 (x1 + x2))) w.heap.size [.int .i64 0, .int .i64 0, .int .i64 0, .bool false, .bool false, .bool false, .int .u64 0, .int .i64 0, .int .u64 0, .int .i64 0, .int .i64 0, .int .i64 0, .int .i64 0] 30) := ((S2.out.far 1 (.int .i64 x1) (by omega)).far 2 (.int .i64 (x1 + x2)) (by omega))
  have ZV : Hid (Blk ((u1.setCell ⟨u0.heap.size, 1, none⟩ (.int .i64 x1)).setCell ⟨u0.heap.size, 2, none⟩ (.int .i64 (x1 + x2))) u0.heap.size [.int .i64 2, .int .i64 x1, .int .i64 (x1 + x2), .bool false, .bool false, .bool false, .int .u64 0, .int .i64 0, .int .u64 0, .int .i64 0, .int .i64 0, .int .i64 0, .int .i64 0] 30) := ((D2.out.set 1 (.int .i64 x1)).set 2 (.int .i64 (x1 + x2)))
  generalize ((u1.setCell ⟨u0.heap.size, 1, none⟩ (.int .i64 x1)).setCell ⟨u0.heap.size, 2, none⟩ (.int .i64 (x1 + x2))) = V at AV KV ZR ZV ⊢
  refine wp_region_lit ?_
  refine load_pat (u0.heap.size) 0 [.int .i64 2, .int .i64 x1, .int .i64 (x1 + x2), .bool false, .bool false, .bool false, .int .u64 0, .int .i64 0, .int .u64 0, .int .i64 0, .int .i64 0, .int .i64 0, .int .i64 0] _ rfl ZV.out.range Try.underlying30 rfl call_info ?_
  refine store_pat w.heap.size 0 #[.int .i64 2, .int .i64 x1, .int .i64 (x1 + x2), .bool false, .bool false, .bool false, .int .u64 0, .int .i64 0, .int .u64 0, .int .i64 0, .int .i64 0, .int .i64 0, .int .i64 0] rfl rfl ZR.out.there call_info (by simp [Value.oneCell']) ?_
  have RV : Hid ((V.setCells w.heap.size 0 ((#[.int .i64 2, .int .i64 x1, .int .i64 (x1 + x2), .bool false, .bool false, .bool false, .int .u64 0, .int .i64 0, .int .u64 0, .int .i64 0, .int .i64 0, .int .i64 0, .int .i64 0] : Array Value).toList)).rangeAt w.heap.size 0 [.int .i64 2, .int .i64 x1, .int .i64 (x1 + x2), .bool false, .bool false, .bool false, .int .u64 0, .int .i64 0, .int .u64 0, .int .i64 0, .int .i64 0, .int .i64 0, .int .i64 0]) := World.rangeAt_setCells_same _ w.heap.size 0 [.int .i64 2, .int .i64 x1, .int .i64 (x1 + x2), .bool false, .bool false, .bool false, .int .u64 0, .int .i64 0, .int .u64 0, .int .i64 0, .int .i64 0, .int .i64 0, .int .i64 0] (show V.there w.heap.size 0 13 from ZR.out.there)
  have AV2 : Hid (IsR (V.setCells w.heap.size 0 ((#[.int .i64 2, .int .i64 x1, .int .i64 (x1 + x2), .bool false, .bool false, .bool false, .int .u64 0, .int .i64 0, .int .u64 0, .int .i64 0, .int .i64 0, .int .i64 0, .int .i64 0] : Array Value).toList)) b W 3) := AV.out.scs (by omega) _ _
  have KV2 : Hid (Kb b w (V.setCells w.heap.size 0 ((#[.int .i64 2, .int .i64 x1, .int .i64 (x1 + x2), .bool false, .bool false, .bool false, .int .u64 0, .int .i64 0, .int .u64 0, .int .i64 0, .int .i64 0, .int .i64 0, .int .i64 0] : Array Value).toList))) := kb_scs KV.out (Nat.le_refl _) _ _
  generalize V.setCells w.heap.size 0 ((#[.int .i64 2, .int .i64 x1, .int .i64 (x1 + x2), .bool false, .bool false, .bool false, .int .u64 0, .int .i64 0, .int .u64 0, .int .i64 0, .int .i64 0, .int .i64 0, .int .i64 0] : Array Value).toList) = V2 at RV AV2 KV2 ⊢
  clear AV KV ZR ZV
  go_wp2_with fail
  have hr := run_loadVar_mid (P := Try.prog) V2 w.heap.size 0 30 [.int .i64 2, .int .i64 x1, .int .i64 (x1 + x2), .bool false, .bool false, .bool false, .int .u64 0, .int .i64 0, .int .u64 0, .int .i64 0, .int .i64 0, .int .i64 0, .int .i64 0] _ RV.out Try.underlying30 rfl call_info
  refine bodyPost_ret (v := .agg #[.int .i64 2, .int .i64 x1, .int .i64 (x1 + x2), .bool false, .bool false, .bool false, .int .u64 0, .int .i64 0, .int .u64 0, .int .i64 0, .int .i64 0, .int .i64 0, .int .i64 0]) ?_ rfl ⟨rfl, AV2.out, KV2.out⟩
  exact results_one Try.results22 _ _ _ _ _ rfl hr
set_option maxHeartbeats 4000000 in
theorem call3 (b : Nat) (W : Wd) (hw : W.wf) (h0 : W.at 0 = 3) (l1 : (pagesOk (W.at 1) (W.at 2))) (l2 : (W.at 3 < 4)) (w : World) (h : IsR w b W 0) : Calls Try.prog 22 #[.pointer (some ⟨b, 0, none⟩)] w fun e w' => e = .returned (.agg #[.int .i64 3, .int .i64 (W.at 1), .int .i64 (W.at 1 + W.at 2), .bool (permW (W.at 3)), .bool true, .bool (permX (W.at 3)), .int .u64 0, .int .i64 0, .int .u64 0, .int .i64 0, .int .i64 0, .int .i64 0, .int .i64 0]) ∧ IsR w' b W 4 ∧ Kb b w w' := by
  have N0 : Hid (∀ w : World, IsR w b W (0) → Calls Try.prog 30 #[.pointer (some ⟨b, 0, none⟩), .int .u64 17] w fun e w' => e = .returned (.int .i64 (W.at (0))) ∧ IsR w' b W (0 + 1) ∧ Kb b w w') := fun w h => number_yes b W (0) (by omega) hw 17 (by omega) (by omega) w h
  rw [h0] at N0
  have N1 : Hid (∀ w : World, IsR w b W (1) → Calls Try.prog 31 #[.pointer (some ⟨b, 0, none⟩)] w fun e w' => e = .returned (.agg #[.int .i64 (W.at 1), .int .i64 (W.at 1 + W.at 2)]) ∧ IsR w' b W (3) ∧ Kb b w w') := fun w h => pages_yes b W 1 (by omega) hw l1 w h
  have N2 : Hid (∀ w : World, IsR w b W (3) → Calls Try.prog 32 #[.pointer (some ⟨b, 0, none⟩)] w fun e w' => e = .returned (.agg #[.bool (permW (W.at 3)), .bool true, .bool (permX (W.at 3))]) ∧ IsR w' b W (4) ∧ Kb b w w') := fun w h => perm_yes b W 3 (by omega) hw l2 w h
  have p1 := (hw 1).1
  have H0 : Hid (IsR w b W 0) := h
  have lt0 := blk_lt h
  clear h hw h0
  generalize W.at 1 = x1 at *
  generalize W.at 2 = x2 at *
  generalize W.at 3 = x3 at *
  have A0 : Hid (IsR (w.alloc (.cells [.int .i64 0, .int .i64 0, .int .i64 0, .bool false, .bool false, .bool false, .int .u64 0, .int .i64 0, .int .u64 0, .int .i64 0, .int .i64 0, .int .i64 0, .int .i64 0].toArray 30)) b W 0) := H0.out.below (Go.Joins.below_alloc1 _ _)
  have Z0 : Hid (Blk (w.alloc (.cells [.int .i64 0, .int .i64 0, .int .i64 0, .bool false, .bool false, .bool false, .int .u64 0, .int .i64 0, .int .u64 0, .int .i64 0, .int .i64 0, .int .i64 0, .int .i64 0].toArray 30)) w.heap.size [.int .i64 0, .int .i64 0, .int .i64 0, .bool false, .bool false, .bool false, .int .u64 0, .int .i64 0, .int .u64 0, .int .i64 0, .int .i64 0, .int .i64 0, .int .i64 0] 30) := Blk.made w _ _
  have K0 : Hid (Kb b w (w.alloc (.cells [.int .i64 0, .int .i64 0, .int .i64 0, .bool false, .bool false, .bool false, .int .u64 0, .int .i64 0, .int .u64 0, .int .i64 0, .int .i64 0, .int .i64 0, .int .i64 0].toArray 30))) := kb_alloc b w _
  go_enter Try.func22, Try.ntmps22
  go_wp2_with fail
  refine (N0.out _ A0.out).mono ?_
  rintro e u0 ⟨rfl, h1, k1⟩
  have A1 : Hid (IsR u0 b W 1) := h1
  have K1 : Hid (Kb b w u0) := K0.out.trans k1
  have Z1 : Hid (Blk u0 w.heap.size [.int .i64 0, .int .i64 0, .int .i64 0, .bool false, .bool false, .bool false, .int .u64 0, .int .i64 0, .int .u64 0, .int .i64 0, .int .i64 0, .int .i64 0, .int .i64 0] 30) := Z0.out.kb k1 (by omega)
  clear h1 k1 A0 K0 Z0
  have y4 : w.heap.size < u0.heap.size := blk_lt Z1.out
  go_wp2_with fail
  have A2 : Hid (IsR (u0.alloc (.cells #[.int .i64 3, .int .i64 0, .int .i64 0, .bool false, .bool false, .bool false, .int .u64 0, .int .i64 0, .int .u64 0, .int .i64 0, .int .i64 0, .int .i64 0, .int .i64 0] 30)) b W 1) := A1.out.below (Go.Joins.below_alloc1 _ _)
  have K2 : Hid (Kb b w (u0.alloc (.cells #[.int .i64 3, .int .i64 0, .int .i64 0, .bool false, .bool false, .bool false, .int .u64 0, .int .i64 0, .int .u64 0, .int .i64 0, .int .i64 0, .int .i64 0, .int .i64 0] 30))) := K1.out.trans (kb_alloc b u0 _)
  have R2 : Hid (Blk (u0.alloc (.cells #[.int .i64 3, .int .i64 0, .int .i64 0, .bool false, .bool false, .bool false, .int .u64 0, .int .i64 0, .int .u64 0, .int .i64 0, .int .i64 0, .int .i64 0, .int .i64 0] 30)) w.heap.size [.int .i64 0, .int .i64 0, .int .i64 0, .bool false, .bool false, .bool false, .int .u64 0, .int .i64 0, .int .u64 0, .int .i64 0, .int .i64 0, .int .i64 0, .int .i64 0] 30) := Z1.out.below (Go.Joins.below_alloc1 _ _)
  have C2 : Hid (Blk (u0.alloc (.cells #[.int .i64 3, .int .i64 0, .int .i64 0, .bool false, .bool false, .bool false, .int .u64 0, .int .i64 0, .int .u64 0, .int .i64 0, .int .i64 0, .int .i64 0, .int .i64 0] 30)) u0.heap.size [.int .i64 3, .int .i64 0, .int .i64 0, .bool false, .bool false, .bool false, .int .u64 0, .int .i64 0, .int .u64 0, .int .i64 0, .int .i64 0, .int .i64 0, .int .i64 0] 30) := Blk.made u0 _ _
  refine (N1.out _ A2.out).mono ?_
  rintro e u1 ⟨rfl, h1, k1⟩
  have B2 : Hid (IsR u1 b W 3) := h1
  have J2 : Hid (Kb b w u1) := K2.out.trans k1
  have S2 : Hid (Blk u1 w.heap.size [.int .i64 0, .int .i64 0, .int .i64 0, .bool false, .bool false, .bool false, .int .u64 0, .int .i64 0, .int .u64 0, .int .i64 0, .int .i64 0, .int .i64 0, .int .i64 0] 30) := R2.out.kb k1 (by omega)
  have D2 : Hid (Blk u1 u0.heap.size [.int .i64 3, .int .i64 0, .int .i64 0, .bool false, .bool false, .bool false, .int .u64 0, .int .i64 0, .int .u64 0, .int .i64 0, .int .i64 0, .int .i64 0, .int .i64 0] 30) := C2.out.kb k1 (by omega)
  have ll2 : u0.heap.size < u1.heap.size := blk_lt D2.out
  clear h1 k1 A2 K2 R2 C2
  have c0_1 : u1.cell? ⟨u0.heap.size, 1, none⟩ = some (.int .i64 0) := D2.out.cell 1
  have f0_1 : u1.frozen? ⟨u0.heap.size, 1, none⟩ = false := D2.out.free 1
  have c0_2 : u1.cell? ⟨u0.heap.size, 2, none⟩ = some (.int .i64 0) := D2.out.cell 2
  have f0_2 : u1.frozen? ⟨u0.heap.size, 2, none⟩ = false := D2.out.free 2
  go_wp2_with fail
  have A3 : Hid (IsR ((u1.setCell ⟨u0.heap.size, 1, none⟩ (.int .i64 x1)).setCell ⟨u0.heap.size, 2, none⟩ (.int .i64 (x1 + x2))) b W 3) := ((B2.out.blk.far 1 (.int .i64 x1) (c := u0.heap.size) (by omega)).far 2 (.int .i64 (x1 + x2)) (c := u0.heap.size) (by omega))
  have K3 : Hid (Kb b w ((u1.setCell ⟨u0.heap.size, 1, none⟩ (.int .i64 x1)).setCell ⟨u0.heap.size, 2, none⟩ (.int .i64 (x1 + x2)))) := (kb_set (kb_set J2.out (by omega) 1 (.int .i64 x1)) (by omega) 2 (.int .i64 (x1 + x2)))
  have R3 : Hid (Blk ((u1.setCell ⟨u0.heap.size, 1, none⟩ (.int .i64 x1)).setCell ⟨u0.heap.size, 2, none⟩ (.int .i64 (x1 + x2))) w.heap.size [.int .i64 0, .int .i64 0, .int .i64 0, .bool false, .bool false, .bool false, .int .u64 0, .int .i64 0, .int .u64 0, .int .i64 0, .int .i64 0, .int .i64 0, .int .i64 0] 30) := ((S2.out.far 1 (.int .i64 x1) (by omega)).far 2 (.int .i64 (x1 + x2)) (by omega))
  have C3 : Hid (Blk ((u1.setCell ⟨u0.heap.size, 1, none⟩ (.int .i64 x1)).setCell ⟨u0.heap.size, 2, none⟩ (.int .i64 (x1 + x2))) u0.heap.size [.int .i64 3, .int .i64 x1, .int .i64 (x1 + x2), .bool false, .bool false, .bool false, .int .u64 0, .int .i64 0, .int .u64 0, .int .i64 0, .int .i64 0, .int .i64 0, .int .i64 0] 30) := ((D2.out.set 1 (.int .i64 x1)).set 2 (.int .i64 (x1 + x2)))
  refine (N2.out _ A3.out).mono ?_
  rintro e u2 ⟨rfl, h1, k1⟩
  have B3 : Hid (IsR u2 b W 4) := h1
  have J3 : Hid (Kb b w u2) := K3.out.trans k1
  have S3 : Hid (Blk u2 w.heap.size [.int .i64 0, .int .i64 0, .int .i64 0, .bool false, .bool false, .bool false, .int .u64 0, .int .i64 0, .int .u64 0, .int .i64 0, .int .i64 0, .int .i64 0, .int .i64 0] 30) := R3.out.kb k1 (by omega)
  have D3 : Hid (Blk u2 u0.heap.size [.int .i64 3, .int .i64 x1, .int .i64 (x1 + x2), .bool false, .bool false, .bool false, .int .u64 0, .int .i64 0, .int .u64 0, .int .i64 0, .int .i64 0, .int .i64 0, .int .i64 0] 30) := C3.out.kb k1 (by omega)
  have ll3 : u0.heap.size < u2.heap.size := blk_lt D3.out
  clear h1 k1 A3 K3 R3 C3
  have c1_3 : u2.cell? ⟨u0.heap.size, 3, none⟩ = some (.bool false) := D3.out.cell 3
  have f1_3 : u2.frozen? ⟨u0.heap.size, 3, none⟩ = false := D3.out.free 3
  have c1_4 : u2.cell? ⟨u0.heap.size, 4, none⟩ = some (.bool false) := D3.out.cell 4
  have f1_4 : u2.frozen? ⟨u0.heap.size, 4, none⟩ = false := D3.out.free 4
  have c1_5 : u2.cell? ⟨u0.heap.size, 5, none⟩ = some (.bool false) := D3.out.cell 5
  have f1_5 : u2.frozen? ⟨u0.heap.size, 5, none⟩ = false := D3.out.free 5
  go_upto_region 40 with fail
  have AV : Hid (IsR (((u2.setCell ⟨u0.heap.size, 3, none⟩ (.bool (permW x3))).setCell ⟨u0.heap.size, 4, none⟩ (.bool true)).setCell ⟨u0.heap.size, 5, none⟩ (.bool (permX x3))) b W 4) := (((B3.out.blk.far 3 (.bool (permW x3)) (c := u0.heap.size) (by omega)).far 4 (.bool true) (c := u0.heap.size) (by omega)).far 5 (.bool (permX x3)) (c := u0.heap.size) (by omega))
  have KV : Hid (Kb b w (((u2.setCell ⟨u0.heap.size, 3, none⟩ (.bool (permW x3))).setCell ⟨u0.heap.size, 4, none⟩ (.bool true)).setCell ⟨u0.heap.size, 5, none⟩ (.bool (permX x3)))) := (kb_set (kb_set (kb_set J3.out (by omega) 3 (.bool (permW x3))) (by omega) 4 (.bool true)) (by omega) 5 (.bool (permX x3)))
  have ZR : Hid (Blk (((u2.setCell ⟨u0.heap.size, 3, none⟩ (.bool (permW x3))).setCell ⟨u0.heap.size, 4, none⟩ (.bool true)).setCell ⟨u0.heap.size, 5, none⟩ (.bool (permX x3))) w.heap.size [.int .i64 0, .int .i64 0, .int .i64 0, .bool false, .bool false, .bool false, .int .u64 0, .int .i64 0, .int .u64 0, .int .i64 0, .int .i64 0, .int .i64 0, .int .i64 0] 30) := (((S3.out.far 3 (.bool (permW x3)) (by omega)).far 4 (.bool true) (by omega)).far 5 (.bool (permX x3)) (by omega))
  have ZV : Hid (Blk (((u2.setCell ⟨u0.heap.size, 3, none⟩ (.bool (permW x3))).setCell ⟨u0.heap.size, 4, none⟩ (.bool true)).setCell ⟨u0.heap.size, 5, none⟩ (.bool (permX x3))) u0.heap.size [.int .i64 3, .int .i64 x1, .int .i64 (x1 + x2), .bool (permW x3), .bool true, .bool (permX x3), .int .u64 0, .int .i64 0, .int .u64 0, .int .i64 0, .int .i64 0, .int .i64 0, .int .i64 0] 30) := (((D3.out.set 3 (.bool (permW x3))).set 4 (.bool true)).set 5 (.bool (permX x3)))
  generalize (((u2.setCell ⟨u0.heap.size, 3, none⟩ (.bool (permW x3))).setCell ⟨u0.heap.size, 4, none⟩ (.bool true)).setCell ⟨u0.heap.size, 5, none⟩ (.bool (permX x3))) = V at AV KV ZR ZV ⊢
  refine wp_region_lit ?_
  refine load_pat (u0.heap.size) 0 [.int .i64 3, .int .i64 x1, .int .i64 (x1 + x2), .bool (permW x3), .bool true, .bool (permX x3), .int .u64 0, .int .i64 0, .int .u64 0, .int .i64 0, .int .i64 0, .int .i64 0, .int .i64 0] _ rfl ZV.out.range Try.underlying30 rfl call_info ?_
  refine store_pat w.heap.size 0 #[.int .i64 3, .int .i64 x1, .int .i64 (x1 + x2), .bool (permW x3), .bool true, .bool (permX x3), .int .u64 0, .int .i64 0, .int .u64 0, .int .i64 0, .int .i64 0, .int .i64 0, .int .i64 0] rfl rfl ZR.out.there call_info (by simp [Value.oneCell']) ?_
  have RV : Hid ((V.setCells w.heap.size 0 ((#[.int .i64 3, .int .i64 x1, .int .i64 (x1 + x2), .bool (permW x3), .bool true, .bool (permX x3), .int .u64 0, .int .i64 0, .int .u64 0, .int .i64 0, .int .i64 0, .int .i64 0, .int .i64 0] : Array Value).toList)).rangeAt w.heap.size 0 [.int .i64 3, .int .i64 x1, .int .i64 (x1 + x2), .bool (permW x3), .bool true, .bool (permX x3), .int .u64 0, .int .i64 0, .int .u64 0, .int .i64 0, .int .i64 0, .int .i64 0, .int .i64 0]) := World.rangeAt_setCells_same _ w.heap.size 0 [.int .i64 3, .int .i64 x1, .int .i64 (x1 + x2), .bool (permW x3), .bool true, .bool (permX x3), .int .u64 0, .int .i64 0, .int .u64 0, .int .i64 0, .int .i64 0, .int .i64 0, .int .i64 0] (show V.there w.heap.size 0 13 from ZR.out.there)
  have AV2 : Hid (IsR (V.setCells w.heap.size 0 ((#[.int .i64 3, .int .i64 x1, .int .i64 (x1 + x2), .bool (permW x3), .bool true, .bool (permX x3), .int .u64 0, .int .i64 0, .int .u64 0, .int .i64 0, .int .i64 0, .int .i64 0, .int .i64 0] : Array Value).toList)) b W 4) := AV.out.scs (by omega) _ _
  have KV2 : Hid (Kb b w (V.setCells w.heap.size 0 ((#[.int .i64 3, .int .i64 x1, .int .i64 (x1 + x2), .bool (permW x3), .bool true, .bool (permX x3), .int .u64 0, .int .i64 0, .int .u64 0, .int .i64 0, .int .i64 0, .int .i64 0, .int .i64 0] : Array Value).toList))) := kb_scs KV.out (Nat.le_refl _) _ _
  generalize V.setCells w.heap.size 0 ((#[.int .i64 3, .int .i64 x1, .int .i64 (x1 + x2), .bool (permW x3), .bool true, .bool (permX x3), .int .u64 0, .int .i64 0, .int .u64 0, .int .i64 0, .int .i64 0, .int .i64 0, .int .i64 0] : Array Value).toList) = V2 at RV AV2 KV2 ⊢
  clear AV KV ZR ZV
  go_wp2_with fail
  have hr := run_loadVar_mid (P := Try.prog) V2 w.heap.size 0 30 [.int .i64 3, .int .i64 x1, .int .i64 (x1 + x2), .bool (permW x3), .bool true, .bool (permX x3), .int .u64 0, .int .i64 0, .int .u64 0, .int .i64 0, .int .i64 0, .int .i64 0, .int .i64 0] _ RV.out Try.underlying30 rfl call_info
  refine bodyPost_ret (v := .agg #[.int .i64 3, .int .i64 x1, .int .i64 (x1 + x2), .bool (permW x3), .bool true, .bool (permX x3), .int .u64 0, .int .i64 0, .int .u64 0, .int .i64 0, .int .i64 0, .int .i64 0, .int .i64 0]) ?_ rfl ⟨rfl, AV2.out, KV2.out⟩
  exact results_one Try.results22 _ _ _ _ _ rfl hr
set_option maxHeartbeats 4000000 in
theorem call4 (b : Nat) (W : Wd) (hw : W.wf) (h0 : W.at 0 = 4) (l1 : (spotOk (W.at 1) (W.at 2))) (w : World) (h : IsR w b W 0) : Calls Try.prog 22 #[.pointer (some ⟨b, 0, none⟩)] w fun e w' => e = .returned (.agg #[.int .i64 4, .int .i64 0, .int .i64 0, .bool false, .bool false, .bool false, .int .u64 (W.at 1), .int .i64 (W.at 2), .int .u64 0, .int .i64 0, .int .i64 0, .int .i64 0, .int .i64 0]) ∧ IsR w' b W 3 ∧ Kb b w w' := by
  have N0 : Hid (∀ w : World, IsR w b W (0) → Calls Try.prog 30 #[.pointer (some ⟨b, 0, none⟩), .int .u64 17] w fun e w' => e = .returned (.int .i64 (W.at (0))) ∧ IsR w' b W (0 + 1) ∧ Kb b w w') := fun w h => number_yes b W (0) (by omega) hw 17 (by omega) (by omega) w h
  rw [h0] at N0
  have N1 : Hid (∀ w : World, IsR w b W (1) → Calls Try.prog 33 #[.pointer (some ⟨b, 0, none⟩)] w fun e w' => e = .returned (.tuple #[.int .u64 (W.at 1), .int .i64 (W.at 2)]) ∧ IsR w' b W (3) ∧ Kb b w w') := fun w h => place_yes b W 1 (by omega) hw l1 w h
  have p1 := (hw 1).1
  have H0 : Hid (IsR w b W 0) := h
  have lt0 := blk_lt h
  clear h hw h0
  generalize W.at 1 = x1 at *
  generalize W.at 2 = x2 at *
  have A0 : Hid (IsR (w.alloc (.cells [.int .i64 0, .int .i64 0, .int .i64 0, .bool false, .bool false, .bool false, .int .u64 0, .int .i64 0, .int .u64 0, .int .i64 0, .int .i64 0, .int .i64 0, .int .i64 0].toArray 30)) b W 0) := H0.out.below (Go.Joins.below_alloc1 _ _)
  have Z0 : Hid (Blk (w.alloc (.cells [.int .i64 0, .int .i64 0, .int .i64 0, .bool false, .bool false, .bool false, .int .u64 0, .int .i64 0, .int .u64 0, .int .i64 0, .int .i64 0, .int .i64 0, .int .i64 0].toArray 30)) w.heap.size [.int .i64 0, .int .i64 0, .int .i64 0, .bool false, .bool false, .bool false, .int .u64 0, .int .i64 0, .int .u64 0, .int .i64 0, .int .i64 0, .int .i64 0, .int .i64 0] 30) := Blk.made w _ _
  have K0 : Hid (Kb b w (w.alloc (.cells [.int .i64 0, .int .i64 0, .int .i64 0, .bool false, .bool false, .bool false, .int .u64 0, .int .i64 0, .int .u64 0, .int .i64 0, .int .i64 0, .int .i64 0, .int .i64 0].toArray 30))) := kb_alloc b w _
  go_enter Try.func22, Try.ntmps22
  go_wp2_with fail
  refine (N0.out _ A0.out).mono ?_
  rintro e u0 ⟨rfl, h1, k1⟩
  have A1 : Hid (IsR u0 b W 1) := h1
  have K1 : Hid (Kb b w u0) := K0.out.trans k1
  have Z1 : Hid (Blk u0 w.heap.size [.int .i64 0, .int .i64 0, .int .i64 0, .bool false, .bool false, .bool false, .int .u64 0, .int .i64 0, .int .u64 0, .int .i64 0, .int .i64 0, .int .i64 0, .int .i64 0] 30) := Z0.out.kb k1 (by omega)
  clear h1 k1 A0 K0 Z0
  have y4 : w.heap.size < u0.heap.size := blk_lt Z1.out
  go_wp2_with fail
  have A2 : Hid (IsR (u0.alloc (.cells #[.int .i64 4, .int .i64 0, .int .i64 0, .bool false, .bool false, .bool false, .int .u64 0, .int .i64 0, .int .u64 0, .int .i64 0, .int .i64 0, .int .i64 0, .int .i64 0] 30)) b W 1) := A1.out.below (Go.Joins.below_alloc1 _ _)
  have K2 : Hid (Kb b w (u0.alloc (.cells #[.int .i64 4, .int .i64 0, .int .i64 0, .bool false, .bool false, .bool false, .int .u64 0, .int .i64 0, .int .u64 0, .int .i64 0, .int .i64 0, .int .i64 0, .int .i64 0] 30))) := K1.out.trans (kb_alloc b u0 _)
  have R2 : Hid (Blk (u0.alloc (.cells #[.int .i64 4, .int .i64 0, .int .i64 0, .bool false, .bool false, .bool false, .int .u64 0, .int .i64 0, .int .u64 0, .int .i64 0, .int .i64 0, .int .i64 0, .int .i64 0] 30)) w.heap.size [.int .i64 0, .int .i64 0, .int .i64 0, .bool false, .bool false, .bool false, .int .u64 0, .int .i64 0, .int .u64 0, .int .i64 0, .int .i64 0, .int .i64 0, .int .i64 0] 30) := Z1.out.below (Go.Joins.below_alloc1 _ _)
  have C2 : Hid (Blk (u0.alloc (.cells #[.int .i64 4, .int .i64 0, .int .i64 0, .bool false, .bool false, .bool false, .int .u64 0, .int .i64 0, .int .u64 0, .int .i64 0, .int .i64 0, .int .i64 0, .int .i64 0] 30)) u0.heap.size [.int .i64 4, .int .i64 0, .int .i64 0, .bool false, .bool false, .bool false, .int .u64 0, .int .i64 0, .int .u64 0, .int .i64 0, .int .i64 0, .int .i64 0, .int .i64 0] 30) := Blk.made u0 _ _
  refine (N1.out _ A2.out).mono ?_
  rintro e u1 ⟨rfl, h1, k1⟩
  have B2 : Hid (IsR u1 b W 3) := h1
  have J2 : Hid (Kb b w u1) := K2.out.trans k1
  have S2 : Hid (Blk u1 w.heap.size [.int .i64 0, .int .i64 0, .int .i64 0, .bool false, .bool false, .bool false, .int .u64 0, .int .i64 0, .int .u64 0, .int .i64 0, .int .i64 0, .int .i64 0, .int .i64 0] 30) := R2.out.kb k1 (by omega)
  have D2 : Hid (Blk u1 u0.heap.size [.int .i64 4, .int .i64 0, .int .i64 0, .bool false, .bool false, .bool false, .int .u64 0, .int .i64 0, .int .u64 0, .int .i64 0, .int .i64 0, .int .i64 0, .int .i64 0] 30) := C2.out.kb k1 (by omega)
  have ll2 : u0.heap.size < u1.heap.size := blk_lt D2.out
  clear h1 k1 A2 K2 R2 C2
  have c0_6 : u1.cell? ⟨u0.heap.size, 6, none⟩ = some (.int .u64 0) := D2.out.cell 6
  have f0_6 : u1.frozen? ⟨u0.heap.size, 6, none⟩ = false := D2.out.free 6
  have c0_7 : u1.cell? ⟨u0.heap.size, 7, none⟩ = some (.int .i64 0) := D2.out.cell 7
  have f0_7 : u1.frozen? ⟨u0.heap.size, 7, none⟩ = false := D2.out.free 7
  go_upto_region 40 with fail
  have AV : Hid (IsR ((u1.setCell ⟨u0.heap.size, 6, none⟩ (.int .u64 x1)).setCell ⟨u0.heap.size, 7, none⟩ (.int .i64 x2)) b W 3) := ((B2.out.blk.far 6 (.int .u64 x1) (c := u0.heap.size) (by omega)).far 7 (.int .i64 x2) (c := u0.heap.size) (by omega))
  have KV : Hid (Kb b w ((u1.setCell ⟨u0.heap.size, 6, none⟩ (.int .u64 x1)).setCell ⟨u0.heap.size, 7, none⟩ (.int .i64 x2))) := (kb_set (kb_set J2.out (by omega) 6 (.int .u64 x1)) (by omega) 7 (.int .i64 x2))
  have ZR : Hid (Blk ((u1.setCell ⟨u0.heap.size, 6, none⟩ (.int .u64 x1)).setCell ⟨u0.heap.size, 7, none⟩ (.int .i64 x2)) w.heap.size [.int .i64 0, .int .i64 0, .int .i64 0, .bool false, .bool false, .bool false, .int .u64 0, .int .i64 0, .int .u64 0, .int .i64 0, .int .i64 0, .int .i64 0, .int .i64 0] 30) := ((S2.out.far 6 (.int .u64 x1) (by omega)).far 7 (.int .i64 x2) (by omega))
  have ZV : Hid (Blk ((u1.setCell ⟨u0.heap.size, 6, none⟩ (.int .u64 x1)).setCell ⟨u0.heap.size, 7, none⟩ (.int .i64 x2)) u0.heap.size [.int .i64 4, .int .i64 0, .int .i64 0, .bool false, .bool false, .bool false, .int .u64 x1, .int .i64 x2, .int .u64 0, .int .i64 0, .int .i64 0, .int .i64 0, .int .i64 0] 30) := ((D2.out.set 6 (.int .u64 x1)).set 7 (.int .i64 x2))
  generalize ((u1.setCell ⟨u0.heap.size, 6, none⟩ (.int .u64 x1)).setCell ⟨u0.heap.size, 7, none⟩ (.int .i64 x2)) = V at AV KV ZR ZV ⊢
  refine wp_region_lit ?_
  refine load_pat (u0.heap.size) 0 [.int .i64 4, .int .i64 0, .int .i64 0, .bool false, .bool false, .bool false, .int .u64 x1, .int .i64 x2, .int .u64 0, .int .i64 0, .int .i64 0, .int .i64 0, .int .i64 0] _ rfl ZV.out.range Try.underlying30 rfl call_info ?_
  refine store_pat w.heap.size 0 #[.int .i64 4, .int .i64 0, .int .i64 0, .bool false, .bool false, .bool false, .int .u64 x1, .int .i64 x2, .int .u64 0, .int .i64 0, .int .i64 0, .int .i64 0, .int .i64 0] rfl rfl ZR.out.there call_info (by simp [Value.oneCell']) ?_
  have RV : Hid ((V.setCells w.heap.size 0 ((#[.int .i64 4, .int .i64 0, .int .i64 0, .bool false, .bool false, .bool false, .int .u64 x1, .int .i64 x2, .int .u64 0, .int .i64 0, .int .i64 0, .int .i64 0, .int .i64 0] : Array Value).toList)).rangeAt w.heap.size 0 [.int .i64 4, .int .i64 0, .int .i64 0, .bool false, .bool false, .bool false, .int .u64 x1, .int .i64 x2, .int .u64 0, .int .i64 0, .int .i64 0, .int .i64 0, .int .i64 0]) := World.rangeAt_setCells_same _ w.heap.size 0 [.int .i64 4, .int .i64 0, .int .i64 0, .bool false, .bool false, .bool false, .int .u64 x1, .int .i64 x2, .int .u64 0, .int .i64 0, .int .i64 0, .int .i64 0, .int .i64 0] (show V.there w.heap.size 0 13 from ZR.out.there)
  have AV2 : Hid (IsR (V.setCells w.heap.size 0 ((#[.int .i64 4, .int .i64 0, .int .i64 0, .bool false, .bool false, .bool false, .int .u64 x1, .int .i64 x2, .int .u64 0, .int .i64 0, .int .i64 0, .int .i64 0, .int .i64 0] : Array Value).toList)) b W 3) := AV.out.scs (by omega) _ _
  have KV2 : Hid (Kb b w (V.setCells w.heap.size 0 ((#[.int .i64 4, .int .i64 0, .int .i64 0, .bool false, .bool false, .bool false, .int .u64 x1, .int .i64 x2, .int .u64 0, .int .i64 0, .int .i64 0, .int .i64 0, .int .i64 0] : Array Value).toList))) := kb_scs KV.out (Nat.le_refl _) _ _
  generalize V.setCells w.heap.size 0 ((#[.int .i64 4, .int .i64 0, .int .i64 0, .bool false, .bool false, .bool false, .int .u64 x1, .int .i64 x2, .int .u64 0, .int .i64 0, .int .i64 0, .int .i64 0, .int .i64 0] : Array Value).toList) = V2 at RV AV2 KV2 ⊢
  clear AV KV ZR ZV
  go_wp2_with fail
  have hr := run_loadVar_mid (P := Try.prog) V2 w.heap.size 0 30 [.int .i64 4, .int .i64 0, .int .i64 0, .bool false, .bool false, .bool false, .int .u64 x1, .int .i64 x2, .int .u64 0, .int .i64 0, .int .i64 0, .int .i64 0, .int .i64 0] _ RV.out Try.underlying30 rfl call_info
  refine bodyPost_ret (v := .agg #[.int .i64 4, .int .i64 0, .int .i64 0, .bool false, .bool false, .bool false, .int .u64 x1, .int .i64 x2, .int .u64 0, .int .i64 0, .int .i64 0, .int .i64 0, .int .i64 0]) ?_ rfl ⟨rfl, AV2.out, KV2.out⟩
  exact results_one Try.results22 _ _ _ _ _ rfl hr
end Go.Proofs.Ytccbacjiiffheaa
