/- Words of a call: the call. -/
import Derived.Test.YtccbacjiiffheaaC1
import Derived.Test.YtccbacjiiffheaaC2
import Derived.Deep.DeepCutAuto
namespace Go.Proofs.Ytccbacjiiffheaa
open Go.ChangeShapes Go.WideShapes Go.ChangeAt Go.RowKit Go.Maps
set_option linter.unusedSimpArgs false
set_option linter.unusedVariables false

/-- a call -/
structure Cl where
  op : Int
  fr : Int
  til : Int
  pw : Bool
  pu : Bool
  px : Bool
  ad : Int
  sz : Int
  x : Int
  id : Int
  a : Int
  b : Int
  d : Int
abbrev Cl.val (c : Cl) : Value := .agg #[.int .i64 c.op, .int .i64 c.fr, .int .i64 c.til, .bool c.pw, .bool c.pu, .bool c.px, .int .u64 c.ad, .int .i64 c.sz, .int .u64 c.x, .int .i64 c.id, .int .i64 c.a, .int .i64 c.b, .int .i64 c.d]
def Cl.zero : Cl := ⟨0, 0, 0, false, false, false, 0, 0, 0, 0, 0, 0, 0⟩
theorem call_info : (Try.prog.info? 30).map (·.size) = some 13 := by kernel_rfl
set_option maxHeartbeats 4000000 in
theorem call11 (b : Nat) (W : Wd) (hw : W.wf) (h0 : W.at 0 = 11) (w : World) (h : IsR w b W 0) : Calls Try.prog 22 #[.pointer (some ⟨b, 0, none⟩)] w fun e w' => e = .returned (Cl.val ⟨11, 0, 0, false, false, false, 0, 0, 0, 0, 0, 0, 0⟩) ∧ IsR w' b W 1 ∧ Kb b w w' := by
  have N0 : Hid (∀ w : World, IsR w b W (0) → Calls Try.prog 30 #[.pointer (some ⟨b, 0, none⟩), .int .u64 17] w fun e w' => e = .returned (.int .i64 (W.at (0))) ∧ IsR w' b W (0 + 1) ∧ Kb b w w') := fun w h => number_yes b W (0) (by omega) hw 17 (by omega) (by omega) w h
  rw [h0] at N0
  have H0 : Hid (IsR w b W 0) := h
  have lt0 := blk_lt h
  clear h hw h0
  have A0 : Hid (IsR (w.alloc (.cells [.int .i64 0, .int .i64 0, .int .i64 0, .bool false, .bool false, .bool false, .int .u64 0, .int .i64 0, .int .u64 0, .int .i64 0, .int .i64 0, .int .i64 0, .int .i64 0].toArray 30)) b W 0) := H0.out.below (Go.Joins.below_alloc1 _ _)
  have Z0 : Hid (Blk (w.alloc (.cells [.int .i64 0, .int .i64 0, .int .i64 0, .bool false, .bool false, .bool false, .int .u64 0, .int .i64 0, .int .u64 0, .int .i64 0, .int .i64 0, .int .i64 0, .int .i64 0].toArray 30)) w.heap.size [.int .i64 0, .int .i64 0, .int .i64 0, .bool false, .bool false, .bool false, .int .u64 0, .int .i64 0, .int .u64 0, .int .i64 0, .int .i64 0, .int .i64 0, .int .i64 0] 30) := Blk.made w _ _
  have K0 : Hid (Kb b w (w.alloc (.cells [.int .i64 0, .int .i64 0, .int .i64 0, .bool false, .bool false, .bool false, .int .u64 0, .int .i64 0, .int .u64 0, .int .i64 0, .int .i64 0, .int .i64 0, .int .i64 0].toArray 30))) := kb_alloc b w _
  go_enter Try.func22, Try.ntmps22
  go_wp2_with fail
  refine (N0.out _ A0.out).mono ?_
  rintro e u1 ⟨rfl, h1, k1⟩
  have A1 : Hid (IsR u1 b W 1) := h1
  have K1 : Hid (Kb b w u1) := K0.out.trans k1
  have Z1 : Hid (Blk u1 w.heap.size [.int .i64 0, .int .i64 0, .int .i64 0, .bool false, .bool false, .bool false, .int .u64 0, .int .i64 0, .int .u64 0, .int .i64 0, .int .i64 0, .int .i64 0, .int .i64 0] 30) := Z0.out.kb k1 (by omega)
  clear h1 k1 A0 K0 Z0
  have y4 : w.heap.size < u1.heap.size := blk_lt Z1.out
  go_upto_region 40 with fail
  have AV : Hid (IsR (u1.alloc (.cells #[.int .i64 11, .int .i64 0, .int .i64 0, .bool false, .bool false, .bool false, .int .u64 0, .int .i64 0, .int .u64 0, .int .i64 0, .int .i64 0, .int .i64 0, .int .i64 0] 30)) b W 1) := A1.out.below (Go.Joins.below_alloc1 _ _)
  have KV : Hid (Kb b w (u1.alloc (.cells #[.int .i64 11, .int .i64 0, .int .i64 0, .bool false, .bool false, .bool false, .int .u64 0, .int .i64 0, .int .u64 0, .int .i64 0, .int .i64 0, .int .i64 0, .int .i64 0] 30))) := K1.out.trans (kb_alloc b u1 _)
  have ZR : Hid (Blk (u1.alloc (.cells #[.int .i64 11, .int .i64 0, .int .i64 0, .bool false, .bool false, .bool false, .int .u64 0, .int .i64 0, .int .u64 0, .int .i64 0, .int .i64 0, .int .i64 0, .int .i64 0] 30)) w.heap.size [.int .i64 0, .int .i64 0, .int .i64 0, .bool false, .bool false, .bool false, .int .u64 0, .int .i64 0, .int .u64 0, .int .i64 0, .int .i64 0, .int .i64 0, .int .i64 0] 30) := Z1.out.below (Go.Joins.below_alloc1 _ _)
  have ZV : Hid (Blk (u1.alloc (.cells #[.int .i64 11, .int .i64 0, .int .i64 0, .bool false, .bool false, .bool false, .int .u64 0, .int .i64 0, .int .u64 0, .int .i64 0, .int .i64 0, .int .i64 0, .int .i64 0] 30)) u1.heap.size [.int .i64 11, .int .i64 0, .int .i64 0, .bool false, .bool false, .bool false, .int .u64 0, .int .i64 0, .int .u64 0, .int .i64 0, .int .i64 0, .int .i64 0, .int .i64 0] 30) := Blk.made u1 _ _
  generalize (u1.alloc (.cells #[.int .i64 11, .int .i64 0, .int .i64 0, .bool false, .bool false, .bool false, .int .u64 0, .int .i64 0, .int .u64 0, .int .i64 0, .int .i64 0, .int .i64 0, .int .i64 0] 30)) = V at AV KV ZR ZV ⊢
  refine wp_region_lit ?_
  refine load_pat (u1.heap.size) 0 [.int .i64 11, .int .i64 0, .int .i64 0, .bool false, .bool false, .bool false, .int .u64 0, .int .i64 0, .int .u64 0, .int .i64 0, .int .i64 0, .int .i64 0, .int .i64 0] _ rfl ZV.out.range Try.underlying30 rfl call_info ?_
  refine store_pat w.heap.size 0 #[.int .i64 11, .int .i64 0, .int .i64 0, .bool false, .bool false, .bool false, .int .u64 0, .int .i64 0, .int .u64 0, .int .i64 0, .int .i64 0, .int .i64 0, .int .i64 0] rfl rfl ZR.out.there call_info (by simp [Value.oneCell']) ?_
  have RV : Hid ((V.setCells w.heap.size 0 ((#[.int .i64 11, .int .i64 0, .int .i64 0, .bool false, .bool false, .bool false, .int .u64 0, .int .i64 0, .int .u64 0, .int .i64 0, .int .i64 0, .int .i64 0, .int .i64 0] : Array Value).toList)).rangeAt w.heap.size 0 [.int .i64 11, .int .i64 0, .int .i64 0, .bool false, .bool false, .bool false, .int .u64 0, .int .i64 0, .int .u64 0, .int .i64 0, .int .i64 0, .int .i64 0, .int .i64 0]) := World.rangeAt_setCells_same _ w.heap.size 0 [.int .i64 11, .int .i64 0, .int .i64 0, .bool false, .bool false, .bool false, .int .u64 0, .int .i64 0, .int .u64 0, .int .i64 0, .int .i64 0, .int .i64 0, .int .i64 0] (show V.there w.heap.size 0 13 from ZR.out.there)
  have AV2 : Hid (IsR (V.setCells w.heap.size 0 ((#[.int .i64 11, .int .i64 0, .int .i64 0, .bool false, .bool false, .bool false, .int .u64 0, .int .i64 0, .int .u64 0, .int .i64 0, .int .i64 0, .int .i64 0, .int .i64 0] : Array Value).toList)) b W 1) := AV.out.scs (by omega) _ _
  have KV2 : Hid (Kb b w (V.setCells w.heap.size 0 ((#[.int .i64 11, .int .i64 0, .int .i64 0, .bool false, .bool false, .bool false, .int .u64 0, .int .i64 0, .int .u64 0, .int .i64 0, .int .i64 0, .int .i64 0, .int .i64 0] : Array Value).toList))) := kb_scs KV.out (Nat.le_refl _) _ _
  generalize V.setCells w.heap.size 0 ((#[.int .i64 11, .int .i64 0, .int .i64 0, .bool false, .bool false, .bool false, .int .u64 0, .int .i64 0, .int .u64 0, .int .i64 0, .int .i64 0, .int .i64 0, .int .i64 0] : Array Value).toList) = V2 at RV AV2 KV2 ⊢
  clear AV KV ZR ZV
  go_wp2_with fail
  have hr := run_loadVar_mid (P := Try.prog) V2 w.heap.size 0 30 [.int .i64 11, .int .i64 0, .int .i64 0, .bool false, .bool false, .bool false, .int .u64 0, .int .i64 0, .int .u64 0, .int .i64 0, .int .i64 0, .int .i64 0, .int .i64 0] _ RV.out Try.underlying30 rfl call_info
  refine bodyPost_ret (v := .agg #[.int .i64 11, .int .i64 0, .int .i64 0, .bool false, .bool false, .bool false, .int .u64 0, .int .i64 0, .int .u64 0, .int .i64 0, .int .i64 0, .int .i64 0, .int .i64 0]) ?_ rfl ⟨rfl, AV2.out, KV2.out⟩
  exact results_one Try.results22 _ _ _ _ _ rfl hr
end Go.Proofs.Ytccbacjiiffheaa
