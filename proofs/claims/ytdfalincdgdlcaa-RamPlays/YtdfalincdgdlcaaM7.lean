/- New: a memory of any holes. -/
import Derived.Test.YtdfalincdgdlcaaN4
import Derived.Test.YtdfalincdgdlcaaM5
namespace Go.Proofs.Ytdfalincdgdlcaa
open Go.ChangeShapes Go.WideShapes Go.ChangeAt Go.RowKit Go.Maps
set_option linter.unusedSimpArgs false
set_option linter.unusedVariables false

set_option maxHeartbeats 4000000 in
theorem new_empty_walk (F : Int) (f0 : ¬ F < 1) (f1 : ¬ 1048576 < F) (hb cap : Nat) (w : World) (hhb : hb < w.heap.size) :
    Calls Try.prog 5 #[.int .i64 F, .slice (some ⟨hb, 0, none⟩) 0 cap] w fun e w' => ∃ (g cap' : Nat) (w2 : World), w.heap.size ≤ g ∧ g < w2.heap.size ∧ HolesAt w2 g [] ∧ w.grownBy w2 none ∧
      e = .returned (.tuple #[.pointer (some ⟨w2.heap.size + 1, 0, none⟩), .int .i64 0]) ∧
      w' = (w2.alloc (.map #[] 0)).alloc (.cells #[.int .i64 F, .slice (some ⟨g, 0, none⟩) 0 cap', .map (some w2.heap.size)] 54) := by
  have hmm := @run_makeMap Try.prog
  have d0 : decide (F < 1) = false := by simp; omega
  have d1 : decide (1048576 < F) = false := by simp; omega
  have hc : Hid (∀ W : World, Calls Try.prog 20 #[.slice (some ⟨hb, 0, none⟩) 0 cap] W fun e w' => ∃ g cap', e = .returned (.slice (some ⟨g, 0, none⟩) 0 cap') ∧ W.heap.size ≤ g ∧ g < w'.heap.size ∧ W.grownBy w' none) := fun W => clone_empty hb cap W
  go_enter Try.func5, Try.ntmps5
  go_wp2_with fail
  refine wp_loop_rounds 1 ?_
  rw [rounds_succ]
  go_wp2_with fail
  refine (hc.out _).mono ?_
  rintro e w2 ⟨g, cap', rfl, k1, k2, k3⟩
  have K : Hid (w.heap.size ≤ g ∧ g < w2.heap.size ∧ w.grownBy w2 none) := ⟨k1, k2, k3⟩
  clear k1 k2 k3
  go_wp2_with fail
  go_ret2
  exact ⟨g, cap', w2, K.out.1, K.out.2.1, (fun j h hj => by simp at hj), K.out.2.2, rfl, rfl⟩
set_option maxHeartbeats 4000000 in
theorem new_ram (F : Int) (f0 : 1 ≤ F) (f1 : F ≤ 1048576) (hb cap : Nat) (hs : List (Int × Int)) (w : World) (l1 : hs.length ≤ 64) (hh : HolesAt w hb hs) (hhb : hb < w.heap.size)
    (hv : ∀ (j : Nat) (h : Int × Int), hs[j]? = some h → 0 ≤ h.1 ∧ h.1 ≤ h.2 ∧ h.2 ≤ F) :
    Calls Try.prog 5 #[.int .i64 F, .slice (some ⟨hb, 0, none⟩) hs.length cap] w fun e w' => ∃ rb, e = .returned (.tuple #[.pointer (some ⟨rb, 0, none⟩), .int .i64 0]) ∧
      IsRam w' w.heap.size rb (hasH F hs) F (fun _ => 0) 0 ∧ Below w.heap.size w w' := by
  have WK : Calls Try.prog 5 #[.int .i64 F, .slice (some ⟨hb, 0, none⟩) hs.length cap] w fun e w' => ∃ (g cap' : Nat) (w2 : World), w.heap.size ≤ g ∧ g < w2.heap.size ∧ HolesAt w2 g hs ∧ w.grownBy w2 none ∧
      e = .returned (.tuple #[.pointer (some ⟨w2.heap.size + 1, 0, none⟩), .int .i64 0]) ∧
      w' = (w2.alloc (.map #[] 0)).alloc (.cells #[.int .i64 F, .slice (some ⟨g, 0, none⟩) hs.length cap', .map (some w2.heap.size)] 54) := by
    by_cases l0 : 0 < hs.length
    · exact new_holes_walk F f0 f1 hb cap hs w l0 l1 hh hhb hv
    · obtain rfl : hs = [] := List.length_eq_zero_iff.1 (by omega)
      exact new_empty_walk F (by omega) (by omega) hb cap w hhb
  refine WK.mono ?_
  rintro e w' ⟨g, cap', w2, k1, k2, k3, k4, he, hw⟩
  have ks := k4.size
  refine ⟨w2.heap.size + 1, he, ?_, ?_⟩
  · subst hw
    have hsz : (w2.alloc (.map #[] 0)).heap.size = w2.heap.size + 1 := World.size_alloc ..
    have hg : (w2.alloc (.map #[] 0)).grownBy ((w2.alloc (.map #[] 0)).alloc (.cells #[.int .i64 F, .slice (some ⟨g, 0, none⟩) hs.length cap', .map (some w2.heap.size)] 54)) none := World.grownBy_alloc _ _ none
    have hg0 : w2.grownBy (w2.alloc (.map #[] 0)) none := World.grownBy_alloc _ _ none
    have hc : ∀ i, ((w2.alloc (.map #[] 0)).alloc (.cells #[.int .i64 F, .slice (some ⟨g, 0, none⟩) hs.length cap', .map (some w2.heap.size)] 54)).cell? ⟨w2.heap.size + 1, i, none⟩ = #[Value.int .i64 F, .slice (some ⟨g, 0, none⟩) hs.length cap', .map (some w2.heap.size)][i]? :=
      fun i => World.cell?_alloc_at _ _ _ _ hsz.symm
    have hh2 := (grown_trans hg0 hg).block g k2 (by simp)
    refine ⟨w2.heap.size, [w2.heap.size + 1, g], fun _ => none, by omega, by omega, ⟨by simp, ?_, ?_⟩, by simp; omega, hc 0, hc 2, (Mem.made w2).kept hg (by simp), ?_, ?_, ?_, ?_⟩
    · intro s hs'
      simp at hs'
      rw [World.size_alloc, hsz]; omega
    · intro w1 e1 e2 k
      have hb1 := e1 (w2.heap.size + 1) (by simp)
      have hb3 := e1 g (by simp)
      refine has_any (w2.heap.size + 1) g cap' F k hs w1 l1 ?_ ?_ ?_ (k3.kept (hb3.trans hh2))
      · rw [World.cell?_of_block (a := ⟨w2.heap.size + 1, 0, none⟩) hb1]; exact hc 0
      · rw [World.cell?_of_block (a := ⟨w2.heap.size + 1, 1, none⟩) hb1]; exact hc 1
      · rw [World.size_alloc, hsz] at e2; omega
    · intro k b h; cases h
    · intro k k' b h; cases h
    · intro k _ i _; rfl
    · intro t; exact ⟨by simp, by simp⟩
  · rw [hw]
    exact ((below_of_grown0 k4 (Nat.le_refl _)).alloc ks _).alloc (by rw [World.size_alloc]; omega) _
theorem good_each {F : Int} {hs : List (Int × Int)} (h : hs.any (badR F) = false) : ∀ (j : Nat) (x : Int × Int), hs[j]? = some x → 0 ≤ x.1 ∧ x.1 ≤ x.2 ∧ x.2 ≤ F := by
  intro j x hx
  have hm : x ∈ hs := List.mem_of_getElem? hx
  have := List.any_eq_false.1 h x hm
  obtain ⟨f, t⟩ := x
  exact bad_no (by simpa using this)
end Go.Proofs.Ytdfalincdgdlcaa
