/- A memory of eight frames but one, its blocks named. -/
import Derived.Test.YtaebihgegiddnaaDoorL0
namespace Go.Proofs.YtaebihgegiddnaaDoor
open Go.ChangeShapes Go.WideShapes Go.ChangeAt Go.RowKit Go.Maps
set_option linter.unusedSimpArgs false
set_option linter.unusedVariables false
set_option maxRecDepth 8000

theorem new_named (F : Int) (f0 : 1 ≤ F) (f1 : F ≤ 1048576) (hb cap : Nat) (hs : List (Int × Int)) (w : World) (l0 : 0 < hs.length) (l1 : hs.length ≤ 64) (hh : HolesAt w hb hs) (hhb : hb < w.heap.size)
    (hv : ∀ (j : Nat) (h : Int × Int), hs[j]? = some h → 0 ≤ h.1 ∧ h.1 ≤ h.2 ∧ h.2 ≤ F) :
    Calls Tryd.prog 12 #[.int .i64 F, .slice (some ⟨hb, 0, none⟩) hs.length cap] w fun e w' => ∃ (rb : Nat) (K : Nat → Prop) (S : List Nat), e = .returned (.tuple #[.pointer (some ⟨rb, 0, none⟩), .int .i64 0]) ∧
      Ram5 w' K S rb (hasH F hs) F (fun _ => 0) 0 ∧ (∀ j, j < w.heap.size → K j) ∧ (∀ s, s ∈ S → w.heap.size ≤ s) ∧ Below w.heap.size w w' := by
  refine (new_holes_walk F f0 f1 hb cap hs w l0 l1 hh hhb hv).mono ?_
  rintro e w' ⟨g, cap', w2, k1, k2, k3, k4, he, hw⟩
  have ks := k4.size
  subst hw
  have hsz : (w2.alloc (.map #[] 0)).heap.size = w2.heap.size + 1 := World.size_alloc ..
  have hg : (w2.alloc (.map #[] 0)).grownBy ((w2.alloc (.map #[] 0)).alloc (.cells #[.int .i64 F, .slice (some ⟨g, 0, none⟩) hs.length cap', .map (some w2.heap.size)] 104)) none := World.grownBy_alloc _ _ none
  have hg0 : w2.grownBy (w2.alloc (.map #[] 0)) none := World.grownBy_alloc _ _ none
  have hc : ∀ i, ((w2.alloc (.map #[] 0)).alloc (.cells #[.int .i64 F, .slice (some ⟨g, 0, none⟩) hs.length cap', .map (some w2.heap.size)] 104)).cell? ⟨w2.heap.size + 1, i, none⟩ = #[Value.int .i64 F, .slice (some ⟨g, 0, none⟩) hs.length cap', .map (some w2.heap.size)][i]? :=
    fun i => World.cell?_alloc_at _ _ _ _ hsz.symm
  have hh2 := (grown_trans hg0 hg).block g k2 (by simp)
  have hok : HasOk ((w2.alloc (.map #[] 0)).alloc (.cells #[.int .i64 F, .slice (some ⟨g, 0, none⟩) hs.length cap', .map (some w2.heap.size)] 104)) (w2.heap.size + 1) [w2.heap.size + 1, g] (hasH F hs) := by
    refine ⟨by simp, ?_, ?_⟩
    · intro s hs'
      simp at hs'
      rw [World.size_alloc, hsz]; omega
    · intro w1 e1 e2 k
      have hb1 := e1 (w2.heap.size + 1) (by simp)
      have hb3 := e1 g (by simp)
      refine has_any (w2.heap.size + 1) g cap' F k hs w1 l1 ?_ ?_ ?_ (k3.kept (hb3.trans hh2))
      · rw [World.cell?_of_block (a := ⟨w2.heap.size + 1, 0, none⟩) hb1]; exact hc 0
      · rw [World.cell?_of_block (a := ⟨w2.heap.size + 1, 1, none⟩) hb1]; exact hc 1
      · rw [World.size_alloc, hsz] at e2; omega
  refine ⟨w2.heap.size + 1, fun j => j < w.heap.size ∨ j ∈ [w2.heap.size + 1, g], [w2.heap.size + 1, g], he, ⟨⟨w2.heap.size, [w2.heap.size + 1, g], fun _ => none, ⟨Nat.zero_le _, Nat.zero_le _, hok, by simp; omega, hc 0, hc 2, (Mem.made w2).kept hg (by simp), ?_, ?_, ?_, ?_⟩, ?_, ?_, ?_⟩, hok, fun s hs => Or.inr hs⟩, fun j hj => Or.inl hj, ?_, ?_⟩
  · intro k b h; cases h
  · intro k k' b h; cases h
  · intro k _ i _; rfl
  · intro t; exact ⟨by simp, by simp⟩
  · simp; omega
  · intro k b h; cases h
  · intro j hj
    rw [World.size_alloc, hsz]
    simp at hj; omega
  · intro s hs'; simp at hs'; omega
  · exact ((below_of_grown0 k4 (Nat.le_refl _)).alloc ks _).alloc (by rw [World.size_alloc]; omega) _
end Go.Proofs.YtaebihgegiddnaaDoor
