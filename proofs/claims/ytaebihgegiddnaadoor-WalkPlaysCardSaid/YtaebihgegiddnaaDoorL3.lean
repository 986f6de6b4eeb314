/- Lay: a memory of eight frames but one with entries, and the document's beside it. -/
import Derived.Test.YtaebihgegiddnaaDoorL2
namespace Go.Proofs.YtaebihgegiddnaaDoor
open Go.ChangeShapes Go.WideShapes Go.ChangeAt Go.RowKit Go.Maps
set_option linter.unusedSimpArgs false
set_option linter.unusedVariables false
set_option maxRecDepth 8000

theorem below_next {w x y : World} (h1 : Below w.heap.size w x) (h2 : Below x.heap.size x y) : Below w.heap.size w y := h1.trans (Go.Joins.below_le h2 h1.size)
theorem heap_lt (w : World) (o : Obj) {j : Nat} (h : j < w.heap.size) : (w.alloc o).heap[j]? = w.heap[j]? := (Go.Joins.below_alloc1 w o).block j h
/-- behind New -/
theorem lay_start {w u : World} {K : Nat → Prop} {S : List Nat} {rb : Nat} (r : Ram5 u K S rb (hasH 8 [(7, 8)]) 8 (fun _ => 0) 0) (hK : ∀ j, j < (((((w.alloc (.cells #[.int .i64 0, .slice none 0 0, .map none] 28)).alloc (.cells #[.int .i64 7, .int .i64 8] 67)).alloc (.map #[] 0)).alloc (.cells #[.int .i64 8, .slice (some ⟨w.heap.size + 1, 0, none⟩) 1 1, .map (some (w.heap.size + 1 + 1))] 28)).alloc (.cells #[.int .i64 7, .int .i64 8] 67)).heap.size → K j) (hS : ∀ s, s ∈ S → (((((w.alloc (.cells #[.int .i64 0, .slice none 0 0, .map none] 28)).alloc (.cells #[.int .i64 7, .int .i64 8] 67)).alloc (.map #[] 0)).alloc (.cells #[.int .i64 8, .slice (some ⟨w.heap.size + 1, 0, none⟩) 1 1, .map (some (w.heap.size + 1 + 1))] 28)).alloc (.cells #[.int .i64 7, .int .i64 8] 67)).heap.size ≤ s) (hb : Below (((((w.alloc (.cells #[.int .i64 0, .slice none 0 0, .map none] 28)).alloc (.cells #[.int .i64 7, .int .i64 8] 67)).alloc (.map #[] 0)).alloc (.cells #[.int .i64 8, .slice (some ⟨w.heap.size + 1, 0, none⟩) 1 1, .map (some (w.heap.size + 1 + 1))] 28)).alloc (.cells #[.int .i64 7, .int .i64 8] 67)).heap.size (((((w.alloc (.cells #[.int .i64 0, .slice none 0 0, .map none] 28)).alloc (.cells #[.int .i64 7, .int .i64 8] 67)).alloc (.map #[] 0)).alloc (.cells #[.int .i64 8, .slice (some ⟨w.heap.size + 1, 0, none⟩) 1 1, .map (some (w.heap.size + 1 + 1))] 28)).alloc (.cells #[.int .i64 7, .int .i64 8] 67)) u) :
    Play w u K S rb 8 [(7, 8)] (w.heap.size + 1) 1 (w.heap.size + 1 + 1) (w.heap.size + 1 + 1 + 1) (fun _ => 0) (fun _ => 0) 0 0 ∧ K w.heap.size ∧ u.heap[w.heap.size]? = some (.cells #[.int .i64 0, .slice none 0 0, .map none] 28 (0, 0)) := by
  have z : (((((w.alloc (.cells #[.int .i64 0, .slice none 0 0, .map none] 28)).alloc (.cells #[.int .i64 7, .int .i64 8] 67)).alloc (.map #[] 0)).alloc (.cells #[.int .i64 8, .slice (some ⟨w.heap.size + 1, 0, none⟩) 1 1, .map (some (w.heap.size + 1 + 1))] 28)).alloc (.cells #[.int .i64 7, .int .i64 8] 67)).heap.size = w.heap.size + 5 := by simp only [World.size_alloc]
  rw [z] at hK hS
  have b1 : Below w.heap.size w (((((w.alloc (.cells #[.int .i64 0, .slice none 0 0, .map none] 28)).alloc (.cells #[.int .i64 7, .int .i64 8] 67)).alloc (.map #[] 0)).alloc (.cells #[.int .i64 8, .slice (some ⟨w.heap.size + 1, 0, none⟩) 1 1, .map (some (w.heap.size + 1 + 1))] 28)).alloc (.cells #[.int .i64 7, .int .i64 8] 67)) := by
    refine Below.alloc (Below.alloc (Below.alloc (Below.alloc (Below.alloc (Below.refl _ _) (Nat.le_refl _) _) ?_ _) ?_ _) ?_ _) ?_ _
    all_goals (simp only [World.size_alloc]; omega)
  have e0 : u.heap[w.heap.size]? = some (.cells #[.int .i64 0, .slice none 0 0, .map none] 28 (0, 0)) := by
    rw [hb.block _ (by rw [z]; omega), heap_lt _ _ (by simp only [World.size_alloc]; omega), heap_lt _ _ (by simp only [World.size_alloc]; omega), heap_lt _ _ (by simp only [World.size_alloc]; omega), heap_lt _ _ (by simp only [World.size_alloc]; omega)]
    exact own_new _ _
  have e1 : u.heap[w.heap.size + 1]? = some (.cells #[.int .i64 7, .int .i64 8] 67 (0, 0)) := by
    rw [hb.block _ (by rw [z]; omega), heap_lt _ _ (by simp only [World.size_alloc]; omega), heap_lt _ _ (by simp only [World.size_alloc]; omega), heap_lt _ _ (by simp only [World.size_alloc]; omega)]
    have h := own_new (w.alloc (.cells #[.int .i64 0, .slice none 0 0, .map none] 28)) (.cells #[.int .i64 7, .int .i64 8] 67)
    simpa only [World.size_alloc] using h
  have e3 : u.heap[w.heap.size + 1 + 1 + 1]? = some (.cells #[.int .i64 8, .slice (some ⟨w.heap.size + 1, 0, none⟩) 1 1, .map (some (w.heap.size + 1 + 1))] 28 (0, 0)) := by
    rw [hb.block _ (by rw [z]; omega), heap_lt _ _ (by simp only [World.size_alloc]; omega)]
    have h := own_new (((w.alloc (.cells #[.int .i64 0, .slice none 0 0, .map none] 28)).alloc (.cells #[.int .i64 7, .int .i64 8] 67)).alloc (.map #[] 0)) (.cells #[.int .i64 8, .slice (some ⟨w.heap.size + 1, 0, none⟩) 1 1, .map (some (w.heap.size + 1 + 1))] 28)
    simpa only [World.size_alloc] using h
  have mm : BMem u (w.heap.size + 1 + 1) 0 (fun _ => 0) := by
    have h := BMem.made ((w.alloc (.cells #[.int .i64 0, .slice none 0 0, .map none] 28)).alloc (.cells #[.int .i64 7, .int .i64 8] 67))
    have h2 := (h.kept (World.grownBy_alloc _ (.cells #[.int .i64 8, .slice (some ⟨w.heap.size + 1, 0, none⟩) 1 1, .map (some (w.heap.size + 1 + 1))] 28) none) (by simp)).kept (World.grownBy_alloc _ (.cells #[.int .i64 7, .int .i64 8] 67) none) (by simp)
    have h3 := h2.kept (below_g0 hb) (by simp)
    simpa only [World.size_alloc] using h3
  have zs := hb.size
  rw [z] at zs
  refine ⟨{ ram := r, mem := mm, km := hK _ (by omega), kx := hK _ (by omega), kg := hK _ (by omega), kw := fun j hj => hK _ (by omega), ns := fun h => by have := hS _ h; omega, box := e3, ho := ?_, lg := by omega, bel := ?_, nx := by omega, ng := by omega, nw := by omega }, hK _ (by omega), e0⟩
  · intro j h hj
    match j with
    | 0 => cases hj; exact ⟨Go.Joins.cell_of_block e1 0, Go.Joins.cell_of_block e1 1⟩
    | j + 1 => simp at hj
  · exact b1.trans ⟨hb.os, hb.tape, hb.output, hb.size, fun j hj => hb.block j (by rw [z]; omega)⟩
end Go.Proofs.YtaebihgegiddnaaDoor
