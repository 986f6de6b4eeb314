/- The contract of ram.New with holes. -/
import Derived.Test.YtaebihgegiddnaaDoorR15
namespace Go.Proofs.YtaebihgegiddnaaDoor
open Go.ChangeShapes Go.WideShapes Go.ChangeAt Go.RowKit Go.Maps
set_option linter.unusedSimpArgs false
set_option linter.unusedVariables false
set_option maxRecDepth 8000

theorem HolesAt.kept {w w' : World} {hb : Nat} {hs : List (Int × Int)} (h : HolesAt w hb hs) (hb2 : w'.heap[hb]? = w.heap[hb]?) : HolesAt w' hb hs := by
  intro j x hx
  obtain ⟨h1, h2⟩ := h j x hx
  exact ⟨(World.cell?_of_block (a := ⟨hb, j * 2, none⟩) hb2).trans h1, (World.cell?_of_block (a := ⟨hb, j * 2 + 1, none⟩) hb2).trans h2⟩

set_option maxHeartbeats 1000000 in
theorem new_holes_walk (F : Int) (f0 : 1 ≤ F) (f1 : F ≤ 1048576) (hb cap : Nat) (hs : List (Int × Int)) (w : World) (l0 : 0 < hs.length) (l1 : hs.length ≤ 64) (hh : HolesAt w hb hs) (hhb : hb < w.heap.size)
    (hv : ∀ (j : Nat) (h : Int × Int), hs[j]? = some h → 0 ≤ h.1 ∧ h.1 ≤ h.2 ∧ h.2 ≤ F) :
    Calls Tryd.prog 12 #[.int .i64 F, .slice (some ⟨hb, 0, none⟩) hs.length cap] w fun e w' => ∃ (g cap' : Nat) (w2 : World), w.heap.size ≤ g ∧ g < w2.heap.size ∧ HolesAt w2 g hs ∧ w.grownBy w2 none ∧
      e = .returned (.tuple #[.pointer (some ⟨w2.heap.size + 1, 0, none⟩), .int .i64 0]) ∧
      w' = (w2.alloc (.map #[] 0)).alloc (.cells #[.int .i64 F, .slice (some ⟨g, 0, none⟩) hs.length cap', .map (some w2.heap.size)] 104) := by
  have hmm := @run_makeMap Tryd.prog
  have HV : Hid (∀ (j : Nat) (h : Int × Int), hs[j]? = some h → 0 ≤ h.1 ∧ h.1 ≤ h.2 ∧ h.2 ≤ F) := hv
  have HH : Hid (HolesAt w hb hs) := hh
  clear hv hh
  go_enter Tryd.func12, Tryd.ntmps12
  go_wp2
  go_loopw [19] (fun i wr => ∃ j : Nat, j ≤ hs.length ∧ i = .int .i64 j ∧ Hid (w.grownBy wr none)) (fun i _ => hs.length - (intOf i).toNat)
  case atStart => exact ⟨0, by omega, rfl, World.grownBy.refl _ _⟩
  case round =>
    obtain ⟨j, hj, rfl, hg⟩ := hrel
    have hb2 := hg.out.block hb hhb (by simp)
    by_cases cj : j < hs.length
    · obtain ⟨f, t, hft⟩ : ∃ f t : Int, hs[j]? = some (f, t) := ⟨(hs[j]).1, (hs[j]).2, by rw [List.getElem?_eq_getElem cj]⟩
      have q1 : wr.cell? ⟨hb, j * 2, none⟩ = some (.int .i64 f) := by rw [World.cell?_of_block (w := w) (a := ⟨hb, j * 2, none⟩) hb2]; exact (HH.out j _ hft).1
      have q2 : wr.cell? ⟨hb, j * 2 + 1, none⟩ = some (.int .i64 t) := by rw [World.cell?_of_block (w := w) (a := ⟨hb, j * 2 + 1, none⟩) hb2]; exact (HH.out j _ hft).2
      obtain ⟨d0, d1, d2⟩ := HV.out j _ hft
      have e0 : 0 ≤ f := d0
      have e1 : f ≤ t := d1
      have e2 : t ≤ F := d2
      clear d0 d1 d2 hft hb2
      go_wp2
      go_roundw
      case rel => exact ⟨j + 1, by omega, by go_num, grown_trans hg.out (World.grownBy_alloc _ _ none)⟩
      case measure => simp [intOf]; omega
    · have e : j = hs.length := by omega
      subst e
      have hc : Hid (∀ u : Unit, Calls Tryd.prog 38 #[.slice (some ⟨hb, 0, none⟩) hs.length cap] wr fun e w' => ∃ g cap', e = .returned (.slice (some ⟨g, 0, none⟩) hs.length cap') ∧ wr.heap.size ≤ g ∧ g < w'.heap.size ∧ HolesAt w' g hs ∧ wr.grownBy w' none) :=
        fun _ => clone_some hb cap hs wr l0 l1 (HH.out.kept hb2) (Nat.lt_of_lt_of_le hhb hg.out.size)
      clear hb2 cj
      go_wp2_with fail
      refine (hc.out ()).mono ?_
      rintro e w2 ⟨g, cap', rfl, k1, k2, k3, k4⟩
      have HR : Hid (w.heap.size ≤ g ∧ g < w2.heap.size ∧ HolesAt w2 g hs ∧ w.grownBy w2 none) := ⟨Nat.le_trans hg.out.size k1, k2, k3, grown_trans hg.out k4⟩
      clear k1 k2 k3 k4
      go_wp2_with fail
      go_ret2
      exact ⟨g, cap', w2, HR.out.1, HR.out.2.1, HR.out.2.2.1, HR.out.2.2.2, rfl, rfl⟩

theorem new_holes (F : Int) (f0 : 1 ≤ F) (f1 : F ≤ 1048576) (hb cap : Nat) (hs : List (Int × Int)) (w : World) (l0 : 0 < hs.length) (l1 : hs.length ≤ 64) (hh : HolesAt w hb hs) (hhb : hb < w.heap.size)
    (hv : ∀ (j : Nat) (h : Int × Int), hs[j]? = some h → 0 ≤ h.1 ∧ h.1 ≤ h.2 ∧ h.2 ≤ F) :
    Calls Tryd.prog 12 #[.int .i64 F, .slice (some ⟨hb, 0, none⟩) hs.length cap] w fun e w' => ∃ rb, e = .returned (.tuple #[.pointer (some ⟨rb, 0, none⟩), .int .i64 0]) ∧
      IsRam w' w.heap.size rb (hasH F hs) F (fun _ => 0) 0 ∧ Below w.heap.size w w' := by
  refine (new_holes_walk F f0 f1 hb cap hs w l0 l1 hh hhb hv).mono ?_
  rintro e w' ⟨g, cap', w2, k1, k2, k3, k4, he, hw⟩
  have ks := k4.size
  refine ⟨w2.heap.size + 1, he, ?_, ?_⟩
  · subst hw
    have hsz : (w2.alloc (.map #[] 0)).heap.size = w2.heap.size + 1 := World.size_alloc ..
    have hg : (w2.alloc (.map #[] 0)).grownBy ((w2.alloc (.map #[] 0)).alloc (.cells #[.int .i64 F, .slice (some ⟨g, 0, none⟩) hs.length cap', .map (some w2.heap.size)] 104)) none := World.grownBy_alloc _ _ none
    have hg0 : w2.grownBy (w2.alloc (.map #[] 0)) none := World.grownBy_alloc _ _ none
    have hc : ∀ i, ((w2.alloc (.map #[] 0)).alloc (.cells #[.int .i64 F, .slice (some ⟨g, 0, none⟩) hs.length cap', .map (some w2.heap.size)] 104)).cell? ⟨w2.heap.size + 1, i, none⟩ = #[Value.int .i64 F, .slice (some ⟨g, 0, none⟩) hs.length cap', .map (some w2.heap.size)][i]? :=
      fun i => World.cell?_alloc_at _ _ _ _ hsz.symm
    have hh2 := (grown_trans hg0 hg).block g k2 (by simp)
    refine ⟨w2.heap.size, [w2.heap.size + 1, g], fun _ => none, by omega, by omega, ⟨by simp, ?_, ?_⟩, by simp; omega, hc 0, hc 2, (Mem.made w2).kept hg (by simp), ?_, ?_, ?_, ?_⟩
    · intro s hs'
      simp at hs'
      rw [World.size_alloc, hsz]; omega
    · intro w1 e1 e2 k
      have hb1 := e1 (w2.heap.size + 1) (by simp)
      have hb3 := e1 g (by simp)
      refine has_any (w2.heap.size + 1) g cap' F k hs w1 l1 ?_ ?_ ?_ (k3.kept (hb3.trans hh2))
      · rw [World.cell?_of_block (a := ⟨w2.heap.size + 1, 0, none⟩) hb1]; exact hc 0
      · rw [World.cell?_of_block (a := ⟨w2.heap.size + 1, 1, none⟩) hb1]; exact hc 1
      · rw [World.size_alloc, hsz] at e2; omega
    · intro k b h; cases h
    · intro k k' b h; cases h
    · intro k _ i _; rfl
    · intro t; exact ⟨by simp, by simp⟩
  · rw [hw]
    exact ((below_of_grown0 k4 (Nat.le_refl _)).alloc ks _).alloc (by rw [World.size_alloc]; omega) _
end Go.Proofs.YtaebihgegiddnaaDoor
