/- The translations' store: its closures. -/
import Derived.Test.YtihedjlcjkbjfaaT1
namespace Go.Proofs.Ytihedjlcjkbjfaa
open Go.ChangeShapes Go.WideShapes Go.ChangeAt Go.RowKit Go.Maps
set_option linter.unusedSimpArgs false
set_option linter.unusedVariables false
set_option maxRecDepth 8000

theorem below_new {w w' : World} (h : Below w.heap.size w w') (o : Obj) : Below w.heap.size w (w'.alloc o) := h.alloc h.size o
theorem below_then {w x y : World} (h1 : Below w.heap.size w x) (h2 : Below x.heap.size x y) : Below w.heap.size w y := h1.trans (Go.Joins.below_le h2 h1.size)
set_option maxHeartbeats 400000 in
theorem page_cl (l : Ln) (B C : Nat) (tag page : Int) (w : World) (hB : w.cell? ⟨B, 0, none⟩ = some (.int .i64 tag)) (hC : w.cell? ⟨C, 0, none⟩ = some (.int .i64 page)) (lB : B < w.heap.size) (lC : C < w.heap.size) :
    Calls Try.prog 46 #[l.val, .pointer (some ⟨B, 0, none⟩), .pointer (some ⟨C, 0, none⟩)] w fun e w' => e = .returned (.bool (l.fits tag page)) ∧ Below w.heap.size w w' := by
  have F : Hid (∀ w : World, Calls Try.prog 40 #[l.val, .int .i64 tag, .int .i64 page] w fun e w' => e = .returned (.bool (l.fits tag page)) ∧ Below w.heap.size w w') := fun w => fits_any l tag page w
  generalize l.fits tag page = z at F ⊢
  go_enter Try.func46, Try.ntmps46
  go_wp2_with (go_at_call 40; refine (F.out _).mono ?_; rintro e w' ⟨rfl, hb⟩)
  go_ret
  exact ⟨rfl, below_then (Go.Joins.below_alloc1 _ _) hb⟩
set_option maxHeartbeats 400000 in
theorem tag_cl (l : Ln) (B : Nat) (tag : Int) (w : World) (hB : w.cell? ⟨B, 0, none⟩ = some (.int .i64 tag)) (lB : B < w.heap.size) :
    Calls Try.prog 47 #[l.val, .pointer (some ⟨B, 0, none⟩)] w fun e w' => e = .returned (.bool (l.t == tag && !l.g)) ∧ Below w.heap.size w w' := by
  by_cases h : l.t = tag
  · have h2 : (l.t == tag) = true := by simp [h]
    go_enter Try.func47, Try.ntmps47
    go_wp2
    go_returns
    exact ⟨by simp [h2], Go.Joins.below_alloc1 _ _⟩
  · have h2 : (l.t == tag) = false := by simp [h]
    go_enter Try.func47, Try.ntmps47
    go_wp2
    go_returns
    exact ⟨by simp [h2], Go.Joins.below_alloc1 _ _⟩
set_option maxHeartbeats 400000 in
theorem all_cl (l : Ln) (B : Nat) (stay : Bool) (w : World) (hB : w.cell? ⟨B, 0, none⟩ = some (.bool stay)) (lB : B < w.heap.size) :
    Calls Try.prog 48 #[l.val, .pointer (some ⟨B, 0, none⟩)] w fun e w' => e = .returned (.bool (!stay || !l.g)) ∧ Below w.heap.size w w' := by
  cases stay
  all_goals
    go_enter Try.func48, Try.ntmps48
    go_wp2
    go_returns
    exact ⟨by simp, Go.Joins.below_alloc1 _ _⟩
def Ln.beats (l old : Ln) : Bool := old.fits l.t l.p || (l.g && (old.p == l.p))
set_option maxHeartbeats 400000 in
theorem fill_cl (l old : Ln) (B : Nat) (w : World) (h1 : w.cell? ⟨B, 1, none⟩ = some (.int .i64 l.t)) (h2 : w.cell? ⟨B, 2, none⟩ = some (.int .i64 l.p)) (h5 : w.cell? ⟨B, 7, none⟩ = some (.bool l.g)) (lB : B < w.heap.size) :
    Calls Try.prog 44 #[old.val, .pointer (some ⟨B, 0, none⟩)] w fun e w' => e = .returned (.bool (l.beats old)) ∧ Below w.heap.size w w' := by
  have F : Hid (∀ w : World, Calls Try.prog 40 #[old.val, .int .i64 l.t, .int .i64 l.p] w fun e w' => e = .returned (.bool (old.fits l.t l.p)) ∧ Below w.heap.size w w') := fun w => fits_any old l.t l.p w
  unfold Ln.beats
  generalize old.fits l.t l.p = z at F ⊢
  cases z
  · cases hg : l.g
    · rw [hg] at h5
      clear hg
      go_enter Try.func44, Try.ntmps44
      go_wp2_with fail
      refine (F.out _).mono ?_
      rintro e w' ⟨rfl, hb⟩
      have c5 : w'.cell? ⟨B, 7, none⟩ = some (.bool false) := (hb.cell (p := ⟨B, 7, none⟩) (by simp; omega)).trans (by rw [World.cell?_alloc_lt _ _ _ (by exact lB)]; exact h5)
      go_wp2_with fail
      go_ret
      exact ⟨rfl, below_then (Go.Joins.below_alloc1 _ _) hb⟩
    · rw [hg] at h5
      clear hg
      by_cases hp : old.p = l.p
      · have h3 : (old.p == l.p) = true := by simp [hp]
        clear hp
        go_enter Try.func44, Try.ntmps44
        go_wp2_with fail
        refine (F.out _).mono ?_
        rintro e w' ⟨rfl, hb⟩
        have c5 : w'.cell? ⟨B, 7, none⟩ = some (.bool true) := (hb.cell (p := ⟨B, 7, none⟩) (by simp; omega)).trans (by rw [World.cell?_alloc_lt _ _ _ (by exact lB)]; exact h5)
        have c2 : w'.cell? ⟨B, 2, none⟩ = some (.int .i64 l.p) := (hb.cell (p := ⟨B, 2, none⟩) (by simp; omega)).trans (by rw [World.cell?_alloc_lt _ _ _ (by exact lB)]; exact h2)
        have o2 : w'.cell? ⟨w.heap.size, 2, none⟩ = some (.int .i64 old.p) := (hb.cell (p := ⟨w.heap.size, 2, none⟩) (by simp)).trans (by simp)
        go_wp2_with fail
        go_ret
        exact ⟨by simp [h3], below_then (Go.Joins.below_alloc1 _ _) hb⟩
      · have h3 : (old.p == l.p) = false := by simp [hp]
        clear hp
        go_enter Try.func44, Try.ntmps44
        go_wp2_with fail
        refine (F.out _).mono ?_
        rintro e w' ⟨rfl, hb⟩
        have c5 : w'.cell? ⟨B, 7, none⟩ = some (.bool true) := (hb.cell (p := ⟨B, 7, none⟩) (by simp; omega)).trans (by rw [World.cell?_alloc_lt _ _ _ (by exact lB)]; exact h5)
        have c2 : w'.cell? ⟨B, 2, none⟩ = some (.int .i64 l.p) := (hb.cell (p := ⟨B, 2, none⟩) (by simp; omega)).trans (by rw [World.cell?_alloc_lt _ _ _ (by exact lB)]; exact h2)
        have o2 : w'.cell? ⟨w.heap.size, 2, none⟩ = some (.int .i64 old.p) := (hb.cell (p := ⟨w.heap.size, 2, none⟩) (by simp)).trans (by simp)
        go_wp2_with fail
        go_ret
        exact ⟨by simp [h3], below_then (Go.Joins.below_alloc1 _ _) hb⟩
  · go_enter Try.func44, Try.ntmps44
    go_wp2_with fail
    refine (F.out _).mono ?_
    rintro e w' ⟨rfl, hb⟩
    go_wp2_with fail
    go_ret
    exact ⟨rfl, below_then (Go.Joins.below_alloc1 _ _) hb⟩
end Go.Proofs.Ytihedjlcjkbjfaa
