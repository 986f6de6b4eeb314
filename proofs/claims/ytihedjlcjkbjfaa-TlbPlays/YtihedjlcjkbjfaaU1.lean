/- The translations' store: Evict; the document's calls on no lines. -/
import Derived.Test.YtihedjlcjkbjfaaT10
namespace Go.Proofs.Ytihedjlcjkbjfaa
open Go.ChangeShapes Go.WideShapes Go.ChangeAt Go.RowKit Go.Maps
set_option linter.unusedSimpArgs false
set_option linter.unusedVariables false
set_option maxRecDepth 8000

def evictT (T : Nat → Ln) (i : Nat) : Nat → Ln := fun k => if k = i then Ln.zero else T k
set_option maxHeartbeats 400000 in
theorem evict_bad (b : Nat) (s y : Int) (h : s < 0 ∨ 8 ≤ s ∨ y < 0 ∨ 2 ≤ y) (w : World) :
    Calls Try.prog 35 #[.pointer (some ⟨b, 0, none⟩), .int .i64 s, .int .i64 y] w fun e w' => e = .returned (.int .i64 1) ∧ Below w.heap.size w w' := by
  by_cases k0 : s < 0
  · have d0 : decide (s < 0) = true := by simp [k0]
    go_enter Try.func35, Try.ntmps35
    go_wp2_with fail
    go_ret
    exact ⟨rfl, Below.refl _ _⟩
  have d0 : decide (s < 0) = false := by simp; omega
  by_cases k1 : 8 ≤ s
  · have d1 : decide (8 ≤ s) = true := by simp [k1]
    go_enter Try.func35, Try.ntmps35
    go_wp2_with fail
    go_ret
    exact ⟨rfl, Below.refl _ _⟩
  have d1 : decide (8 ≤ s) = false := by simp; omega
  by_cases k2 : y < 0
  · have d2 : decide (y < 0) = true := by simp [k2]
    go_enter Try.func35, Try.ntmps35
    go_wp2_with fail
    go_ret
    exact ⟨rfl, Below.refl _ _⟩
  have d2 : decide (y < 0) = false := by simp; omega
  by_cases k3 : 2 ≤ y
  · have d3 : decide (2 ≤ y) = true := by simp [k3]
    go_enter Try.func35, Try.ntmps35
    go_wp2_with fail
    go_ret
    exact ⟨rfl, Below.refl _ _⟩
  have d3 : decide (2 ≤ y) = false := by simp; omega
  omega
set_option maxHeartbeats 400000 in
theorem evict_ok (b : Nat) (T : Nat → Ln) (s y : Nat) (hs : s < 8) (hy : y < 2) (w : World) (h : IsTlb w b T) :
    Calls Try.prog 35 #[.pointer (some ⟨b, 0, none⟩), .int .i64 s, .int .i64 y] w fun e w' => e = .returned (.int .i64 0) ∧ IsTlb w' b (evictT T (2 * s + y)) ∧ w.grownBy w' (some b) := by
  have d0 : decide ((s : Int) < 0) = false := by simp
  have d1 : decide (8 ≤ (s : Int)) = false := by simp; omega
  have d2 : decide ((y : Int) < 0) = false := by simp
  have d3 : decide (2 ≤ (y : Int)) = false := by simp; omega
  have k0 : (0 : Int) ≤ (s : Int) := by omega
  have k8 : (s : Int) < 8 := by omega
  have j0 : (0 : Int) ≤ (y : Int) := by omega
  have j2 : (y : Int) < 2 := by omega
  have hb := h.2.2
  have HT : Hid (IsTlb w b T) := h
  have TH : Hid (w.there b (s * 18 + y * 9) 9) := h.free _ _ (by omega)
  clear h
  go_enter Try.func35, Try.ntmps35
  go_wp2_with (refine store_pat b (s * 18 + y * 9) #[.bool false, .int .i64 0, .int .i64 0, .int .i64 0, .bool false, .bool false, .bool false, .bool false, .bool false] ?hx ?hy ?ht ?hi ?h1 ?rest; (case hx => rfl); (case hy => rfl); (case ht => exact TH.out); (case hi => exact line_info); (case h1 => exact zero_one))
  go_ret
  refine ⟨rfl, ?_, grown_setCells _ _ _ _⟩
  have := HT.out.put (2 * s + y) (by omega) Ln.zero
  rw [show (2 * s + y) * 9 = s * 18 + y * 9 by omega] at this
  exact this
set_option maxHeartbeats 400000 in
theorem without_nil (k a c : Int) (w : World) : Calls Try.prog 36 #[.slice none 0 0, .int .i64 k, .int .i64 a, .int .i64 c] w fun e w' => (∃ v, e = .returned v) ∧ Below w.heap.size w w' := by
  go_enter Try.func36, Try.ntmps36
  go_wp2_with fail
  refine wp_loop_rounds 1 ?_
  rw [rounds_succ]
  go_wp2_with fail
  go_ret
  exact ⟨⟨_, rfl⟩, by first | exact Below.refl _ _ | exact Go.Joins.below_alloc1 _ _⟩
set_option maxHeartbeats 400000 in
theorem told_any (v : Bool) (t p f : Int) (lw lu lx g d : Bool) (y : Int) (w : World) : Calls Try.prog 24 #[.agg #[.bool v, .int .i64 t, .int .i64 p, .int .i64 f, .bool lw, .bool lu, .bool lx, .bool g, .bool d], .int .i64 y] w fun e w' => e = .returned (.agg #[.int .i64 y, .int .i64 t, .int .i64 p, .int .i64 f, .bool lw, .bool lu, .bool lx, .bool g, .bool d]) ∧ Below w.heap.size w w' := by
  go_enter Try.func24, Try.ntmps24
  go_wp2_with fail
  go_returns
  exact ⟨rfl, Go.Joins.below_alloc2 _ _ _⟩
def zref : Value := .agg #[.int .i64 0, .int .i64 0, .int .i64 0, .int .i64 0, .bool false, .bool false, .bool false, .bool false, .bool false]
theorem ref_info5 : (Try.prog.info? 68).map (fun i => (i.zero, i.size, i.bytes)) = some (some zref, 9, 40) := by kernel_rfl
theorem news3 (u : World) (o p : Obj) (C : Array Value) (t : TypeId) : ∀ j x, C.toList[j]? = some x → (((u.alloc o).alloc p).alloc (.cells C t)).cell? ((⟨u.heap.size + 1 + 1, 0, none⟩ : Addr).add j) = some x := by
  have := news_cells (u.alloc o) p C t
  rw [World.size_alloc] at this; exact this
set_option maxHeartbeats 1000000 in
theorem rfill_nil (y t p f : Int) (lw lu lx g d : Bool) (w : World) : Calls Try.prog 34 #[.slice none 0 0, .agg #[.int .i64 y, .int .i64 t, .int .i64 p, .int .i64 f, .bool lw, .bool lu, .bool lx, .bool g, .bool d]] w fun e w' => (∃ v, e = .returned v) ∧ Below w.heap.size w w' := by
  obtain ⟨i0, hi, hz0, hz1, hz2⟩ := info5 ref_info5
  have OW : Hid ((((w.alloc (.cells #[.int .i64 y, .int .i64 t, .int .i64 p, .int .i64 f, .bool lw, .bool lu, .bool lx, .bool g, .bool d] 68)).alloc (.cells #[] 68)).alloc (.cells #[.int .i64 y, .int .i64 t, .int .i64 p, .int .i64 f, .bool lw, .bool lu, .bool lx, .bool g, .bool d] 68)).ownsRow w.heap.size 68 9 (.slice (some ⟨w.heap.size + 1, 0, none⟩) 0 0) 0 []) := by
    refine ⟨rfl, Or.inr ⟨w.heap.size + 1, 0, #[], rfl, by omega, ?_, by omega, by omega, rfl, rfl⟩⟩
    exact ((Go.Joins.below_alloc1 _ _).block _ (by simp)).trans (own2b w _ _)
  have NW : Hid (∀ j x, ([.int .i64 y, .int .i64 t, .int .i64 p, .int .i64 f, .bool lw, .bool lu, .bool lx, .bool g, .bool d] : List Value)[j]? = some x → (((w.alloc (.cells #[.int .i64 y, .int .i64 t, .int .i64 p, .int .i64 f, .bool lw, .bool lu, .bool lx, .bool g, .bool d] 68)).alloc (.cells #[] 68)).alloc (.cells #[.int .i64 y, .int .i64 t, .int .i64 p, .int .i64 f, .bool lw, .bool lu, .bool lx, .bool g, .bool d] 68)).cell? ((⟨w.heap.size + 1 + 1, 0, none⟩ : Addr).add j) = some x) := news3 w _ _ #[.int .i64 y, .int .i64 t, .int .i64 p, .int .i64 f, .bool lw, .bool lu, .bool lx, .bool g, .bool d] 68
  have ON : Hid (∀ x ∈ ([.int .i64 y, .int .i64 t, .int .i64 p, .int .i64 f, .bool lw, .bool lu, .bool lx, .bool g, .bool d] : List Value), x.oneCell' = true) := by show ∀ x ∈ ([.int .i64 y, .int .i64 t, .int .i64 p, .int .i64 f, .bool lw, .bool lu, .bool lx, .bool g, .bool d] : List Value), x.oneCell' = true; simp [Value.oneCell']
  have HZ : Hid (w.heap.size ≤ (((w.alloc (.cells #[.int .i64 y, .int .i64 t, .int .i64 p, .int .i64 f, .bool lw, .bool lu, .bool lx, .bool g, .bool d] 68)).alloc (.cells #[] 68)).alloc (.cells #[.int .i64 y, .int .i64 t, .int .i64 p, .int .i64 f, .bool lw, .bool lu, .bool lx, .bool g, .bool d] 68)).heap.size) := by show _ ≤ _; rw [World.size_alloc, World.size_alloc, World.size_alloc]; omega
  have MX : Hid (0 + 1 ≤ maxLen) := by show _ ≤ _; unfold maxLen; omega
  have BY : Hid ((0 + 1) * 40 ≤ 140737488355328) := by show _ ≤ _; omega
  go_enter Try.func34, Try.ntmps34
  go_wp2_with fail
  refine wp_loop_rounds 1 ?_
  rw [rounds_succ]
  go_wp2_with (at_builtin; refine wpList_append_own _ rfl _ _ 59 rfl w.heap.size 68 i0 zref 9 40 Try.underlying59 hi hz0 hz1 hz2 rfl (by decide) (.slice (some ⟨w.heap.size + 1, 0, none⟩) 0 0) 0 [] rfl OW.out ⟨w.heap.size + 1 + 1, 0, none⟩ 1 1 ([.int .i64 y, .int .i64 t, .int .i64 p, .int .i64 f, .bool lw, .bool lu, .bool lx, .bool g, .bool d] : List Value) rfl rfl NW.out ON.out MX.out BY.out HZ.out ?_; intro v1 a0 hown hg hnil; have B1 : Hid (Below w.heap.size w a0) := below_grown (base := 0) (((Below.refl _ w).alloc (Nat.le_refl _) _).alloc (by simp) _ |>.alloc (by simp; omega) _) OW.out hg; clear hown hg hnil OW NW ON HZ MX BY)
  go_wp2_with fail
  go_ret
  exact ⟨⟨_, rfl⟩, B1.out⟩
end Go.Proofs.Ytihedjlcjkbjfaa
