/- The contract of walk's follow. -/
import Derived.Test.YtaebihgegiddnaaDoorW2
import Derived.OwnWalk
import Derived.Laws.AppendOwn
import Derived.Laws.MakeOwn
namespace Go.Proofs.YtaebihgegiddnaaDoor
open Go.ChangeShapes Go.WideShapes Go.ChangeAt Go.RowKit Go.Maps
set_option linter.unusedSimpArgs false
set_option linter.unusedVariables false
set_option maxRecDepth 8000

def zstep : Value := .agg #[.int .u64 0, .int .u64 0, .bool false, .bool false, .bool false, .bool false, .bool false, .bool false, .bool false, .bool false, .int .i64 0, .int .i64 0]
theorem step_info5 : (Tryd.prog.info? 85).map (fun i => (i.zero, i.size, i.bytes)) = some (some zstep, 12, 40) := by kernel_rfl
theorem info5 {P : Program} {e : TypeId} {z : Value} {s b : Nat} (h : (P.info? e).map (fun i => (i.zero, i.size, i.bytes)) = some (some z, s, b)) : ∃ i : TypeInfo, P.info? e = some i ∧ i.zero = some z ∧ i.size = s ∧ i.bytes = b := by
  cases hq : P.info? e with
  | none => simp [hq] at h
  | some i =>
    simp [hq] at h
    exact ⟨i, rfl, h.1, h.2.1, h.2.2⟩
theorem make_steps : ∃ Z : Array Value, Z.size = 48 ∧ ∀ W : World, (Instr.makeSlice 78 (.int .i64 0) (.int .i64 4)).run Tryd.prog W = .ok (.slice (some ⟨W.heap.size, 0, none⟩) 0 4) (W.alloc (.cells Z 85)) := by
  obtain ⟨i, h1, h2, h3, h4⟩ := info5 step_info5
  refine ⟨_, ?_, fun W => run_make W 78 85 i zstep Tryd.underlying78 h1 h2 .i64 .i64 0 4 (by omega) (by omega) (by rw [h4]; decide) (by omega)⟩
  rw [h3]; simp [madeCells]
/-- a way of n entries, in a block of its own -/
def Way (w : World) (base : Nat) (v : Value) (n : Nat) (xs : List Value) : Prop := w.ownsRow base 85 12 v n xs ∧ ∃ g cap, v = .slice (some ⟨g, 0, none⟩) n cap ∧ base ≤ g ∧ g < w.heap.size
theorem Way.keep {w w' : World} {base n : Nat} {v : Value} {xs : List Value} (h : Way w base v n xs) (hb : Below w.heap.size w w') : Way w' base v n xs := by
  obtain ⟨⟨h1, h2⟩, g, cap, hv, hg1, hg2⟩ := h
  refine ⟨⟨h1, ?_⟩, g, cap, hv, hg1, Nat.lt_of_lt_of_le hg2 hb.size⟩
  rcases h2 with h2 | ⟨g', cap', cur, e1, e2, e3, e4⟩
  · exact Or.inl h2
  · have hg' : g' < w.heap.size := (Array.getElem?_eq_some_iff.1 e3).1
    exact Or.inr ⟨g', cap', cur, e1, e2, (hb.block g' hg').trans e3, e4⟩
theorem Way.made (w : World) (Z : Array Value) (hZ : Z.size = 48) : Way (w.alloc (.cells Z 85)) w.heap.size (.slice (some ⟨w.heap.size, 0, none⟩) 0 4) 0 [] :=
  ⟨⟨rfl, Or.inr ⟨w.heap.size, 4, Z, rfl, Nat.le_refl _, own1 w _, by omega, by unfold maxLen; decide, by rw [hZ], rfl⟩⟩, _, _, rfl, Nat.le_refl _, by rw [World.size_alloc]; omega⟩
theorem Way.of_own {w : World} {base n : Nat} {v : Value} {xs : List Value} (h : w.ownsRow base 85 12 v n xs) (hn : 0 < n) : Way w base v n xs := by
  refine ⟨h, ?_⟩
  obtain ⟨h1, h2 | ⟨g', cap', cur, e1, e2, e3, e4⟩⟩ := h
  · omega
  · exact ⟨g', cap', e1, e2, (Array.getElem?_eq_some_iff.1 e3).1⟩
theorem Way.own {w : World} {base n : Nat} {v : Value} {xs : List Value} (h : Way w base v n xs) : ∃ g, v.ownBlock = some g ∧ base ≤ g ∧ g < w.heap.size := by
  obtain ⟨_, g, cap, rfl, h1, h2⟩ := h
  exact ⟨g, rfl, h1, h2⟩
set_option maxHeartbeats 400000 in
theorem large_any (A X f L : Int) (y0 y1 y2 y3 y4 y5 y6 y7 : Bool) (w : World) : Calls Tryd.prog 43 #[stepv A X y0 y1 y2 y3 y4 y5 y6 y7 f L] w fun e w' => e = .returned (.bool (L == 2 && y5)) ∧ Below w.heap.size w w' := by
  unfold stepv
  by_cases h : L = 2
  · subst h
    go_enter Tryd.func43, Tryd.ntmps43
    go_wp2_with fail
    go_returns
    exact ⟨by simp, Go.Joins.below_alloc1 _ _⟩
  · have h2 : (L == 2) = false := by simp [h]
    go_enter Tryd.func43, Tryd.ntmps43
    go_wp2_with fail
    go_returns
    exact ⟨by simp [h2], Go.Joins.below_alloc1 _ _⟩
end Go.Proofs.YtaebihgegiddnaaDoor
