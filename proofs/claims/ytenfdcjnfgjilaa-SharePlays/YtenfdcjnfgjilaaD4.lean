/- Grants: a call of the laws: Revoke. -/
import Derived.Test.YtenfdcjnfgjilaaS8
import Derived.Sort.BigQuietIn
namespace Go.Proofs.Ytenfdcjnfgjilaa
open Go.ChangeShapes Go.WideShapes Go.ChangeAt Go.RowKit Go.Maps
set_option linter.unusedSimpArgs false
set_option linter.unusedVariables false
set_option maxRecDepth 8000
set_option maxRecDepth 8000
set_option maxRecDepth 8000

theorem tab_drewN4 {w : World} {b n : Nat} {T : Nat → Gr} (h : IsTab w b T) : IsTab (w.drewN n) b T := h
theorem grown_drewN4 {w W : World} {r : Option Nat} {n : Nat} (h : w.grownBy W r) : w.grownBy (W.drewN n) r := ⟨h.os, h.tape, h.output, h.size, h.block⟩
set_option maxHeartbeats 8000000 in
theorem does4 (b : Nat) (T : Nat → Gr) (A B P : Int) (X : Bool) (w : World) (h : IsTab w b T) :
    Calls Try.prog 9 #[.pointer (some ⟨b, 0, none⟩), .slice none 0 0, .agg #[.int .i64 4, .int .i64 A, .int .i64 B, .int .i64 P, .bool X]] w fun e w' => (∃ v, e = .returned v) ∧ IsTab w' b (revT T A B) ∧ w.grownBy w' (some b) := by
  have hb := h.2.2
  have HT : Hid (IsTab w b T) := h
  clear h
  have CO : Hid (∀ W : World, IsTab W b T → Calls Try.prog 18 #[.pointer (some ⟨b, 0, none⟩), .int .i64 A, .int .i64 B] W fun e w' => e = .returned (.tuple #[(revG T A B).val, .int .i64 (revE T A B)]) ∧ IsTab w' b (revT T A B) ∧ W.grownBy w' (some b)) := fun W h => revoke_any b T A B W h
  have RO : Hid (∀ W : World, Calls Try.prog 25 #[.slice none 0 0, .int .i64 A, .int .i64 B] W fun e w' => e = .returned (.tuple #[.slice none 0 0, .agg #[.int .i64 0, .int .i64 0, .int .i64 0, .int .i64 0, .bool false, .bool false, .int .i64 0], .int .i64 5]) ∧ Below W.heap.size W w') := fun W => rrevoke_nil A B W
  have TD : Hid (∀ (l : Gr) (i : Int) (W : World), Calls Try.prog 15 #[l.val, .int .i64 i] W fun e w' => e = .returned (l.val7 i) ∧ Below W.heap.size W w') := told_any
  have ED : (revE T A B = 5 ∧ revG T A B = ⟨0, 0, 0, false, false, 0⟩) ∨ revE T A B = 0 := by
    by_cases c : revE T A B = 0
    · exact Or.inr c
    · exact Or.inl ⟨by unfold revE at c ⊢; split <;> simp_all, by unfold revG; rw [if_neg c]; rfl⟩
  generalize revE T A B = re at CO ED
  generalize revG T A B = gg at CO ED
  generalize revT T A B = TN at CO ⊢
  rcases ED with ⟨rfl, rfl⟩ | rfl
  · go_enter Try.func9, Try.ntmps9
    go_wp2_with fail
    refine (CO.out _ (HT.out.below (Go.Joins.below_alloc1 _ _))).mono ?_
    rintro e u1 ⟨rfl, h1, h2⟩
    have x1 : u1.cell? ⟨w.heap.size, 1, none⟩ = some (.int .i64 A) := cell_grown h2 (by simp) (by omega) (by simp)
    have x2 : u1.cell? ⟨w.heap.size, 2, none⟩ = some (.int .i64 B) := cell_grown h2 (by simp) (by omega) (by simp)
    have x3 : u1.cell? ⟨w.heap.size, 3, none⟩ = some (.int .i64 P) := cell_grown h2 (by simp) (by omega) (by simp)
    have x4 : u1.cell? ⟨w.heap.size, 4, none⟩ = some (.bool X) := cell_grown h2 (by simp) (by omega) (by simp)
    have lx : w.heap.size < u1.heap.size := Nat.lt_of_lt_of_le (by simp) h2.size
    have T1 : Hid (IsTab u1 b TN) := h1
    have G1 : Hid (w.grownBy u1 (some b)) := grown_trans (grown_alloc _ _ _) h2
    clear h1 h2
    go_wp2_with fail
    refine (RO.out _).mono ?_
    rintro e u2 ⟨rfl, hb2⟩
    have T2 : Hid (IsTab u2 b TN) := (T1.out.below (Go.Joins.below_alloc1 _ _)).below hb2
    have G2 : Hid (w.grownBy u2 (some b)) := grown_trans (grown_new G1.out _) (grown_of_below hb2 _)
    have y0 : u2.cell? ⟨u1.heap.size, 0, none⟩ = some (.int .i64 0) := (hb2.cell (p := ⟨u1.heap.size, 0, none⟩) (by simp)).trans (by simp)
    have y1 : u2.cell? ⟨u1.heap.size, 1, none⟩ = some (.int .i64 0) := (hb2.cell (p := ⟨u1.heap.size, 1, none⟩) (by simp)).trans (by simp)
    have y2 : u2.cell? ⟨u1.heap.size, 2, none⟩ = some (.int .i64 0) := (hb2.cell (p := ⟨u1.heap.size, 2, none⟩) (by simp)).trans (by simp)
    have y3 : u2.cell? ⟨u1.heap.size, 3, none⟩ = some (.bool false) := (hb2.cell (p := ⟨u1.heap.size, 3, none⟩) (by simp)).trans (by simp)
    have y4 : u2.cell? ⟨u1.heap.size, 4, none⟩ = some (.bool false) := (hb2.cell (p := ⟨u1.heap.size, 4, none⟩) (by simp)).trans (by simp)
    have y5 : u2.cell? ⟨u1.heap.size, 5, none⟩ = some (.int .i64 0) := (hb2.cell (p := ⟨u1.heap.size, 5, none⟩) (by simp)).trans (by simp)
    have ly : u1.heap.size < u2.heap.size := Nat.lt_of_lt_of_le (by simp) hb2.size
    clear hb2 x1 x2 x3 x4
    go_wp2_with fail
    go_region_with (refine (TD.out ⟨0, 0, 0, false, false, 0⟩ _ _).mono ?_; rintro e u3 ⟨rfl, hb3⟩; have v0 : u3.cell? ⟨u2.heap.size, 0, none⟩ = some (.int .i64 0) := (hb3.cell (p := ⟨u2.heap.size, 0, none⟩) (by simp)).trans (by simp); have v1 : u3.cell? ⟨u2.heap.size, 1, none⟩ = some (.int .i64 0) := (hb3.cell (p := ⟨u2.heap.size, 1, none⟩) (by simp)).trans (by simp); have v2 : u3.cell? ⟨u2.heap.size, 2, none⟩ = some (.int .i64 0) := (hb3.cell (p := ⟨u2.heap.size, 2, none⟩) (by simp)).trans (by simp); have v3 : u3.cell? ⟨u2.heap.size, 3, none⟩ = some (.int .i64 0) := (hb3.cell (p := ⟨u2.heap.size, 3, none⟩) (by simp)).trans (by simp); have v4 : u3.cell? ⟨u2.heap.size, 4, none⟩ = some (.bool false) := (hb3.cell (p := ⟨u2.heap.size, 4, none⟩) (by simp)).trans (by simp); have v5 : u3.cell? ⟨u2.heap.size, 5, none⟩ = some (.bool false) := (hb3.cell (p := ⟨u2.heap.size, 5, none⟩) (by simp)).trans (by simp); have v6 : u3.cell? ⟨u2.heap.size, 6, none⟩ = some (.int .i64 0) := (hb3.cell (p := ⟨u2.heap.size, 6, none⟩) (by simp)).trans (by simp); have T3 : Hid (IsTab u3 b TN) := ((T2.out.below (Go.Joins.below_alloc1 _ _)).drew.below hb3); have G3 : Hid (w.grownBy u3 (some b)) := (grown_trans (grown_drew (grown_new G2.out _)) (grown_of_below hb3 _)); clear hb3)
    all_goals go_wp2_with fail
    all_goals go_returns
    all_goals exact ⟨⟨_, rfl⟩, T3.out, G3.out⟩
  · obtain ⟨gf, gp, gd, gw, gt, ga⟩ := gg
    go_enter Try.func9, Try.ntmps9
    go_wp2_with fail
    refine (CO.out _ (HT.out.below (Go.Joins.below_alloc1 _ _))).mono ?_
    rintro e u1 ⟨rfl, h1, h2⟩
    have x1 : u1.cell? ⟨w.heap.size, 1, none⟩ = some (.int .i64 A) := cell_grown h2 (by simp) (by omega) (by simp)
    have x2 : u1.cell? ⟨w.heap.size, 2, none⟩ = some (.int .i64 B) := cell_grown h2 (by simp) (by omega) (by simp)
    have x3 : u1.cell? ⟨w.heap.size, 3, none⟩ = some (.int .i64 P) := cell_grown h2 (by simp) (by omega) (by simp)
    have x4 : u1.cell? ⟨w.heap.size, 4, none⟩ = some (.bool X) := cell_grown h2 (by simp) (by omega) (by simp)
    have lx : w.heap.size < u1.heap.size := Nat.lt_of_lt_of_le (by simp) h2.size
    have T1 : Hid (IsTab u1 b TN) := h1
    have G1 : Hid (w.grownBy u1 (some b)) := grown_trans (grown_alloc _ _ _) h2
    clear h1 h2
    go_wp2_with fail
    refine (RO.out _).mono ?_
    rintro e u2 ⟨rfl, hb2⟩
    have T2 : Hid (IsTab u2 b TN) := (T1.out.below (Go.Joins.below_alloc1 _ _)).below hb2
    have G2 : Hid (w.grownBy u2 (some b)) := grown_trans (grown_new G1.out _) (grown_of_below hb2 _)
    have y0 : u2.cell? ⟨u1.heap.size, 0, none⟩ = some (.int .i64 gf) := (hb2.cell (p := ⟨u1.heap.size, 0, none⟩) (by simp)).trans (by simp)
    have y1 : u2.cell? ⟨u1.heap.size, 1, none⟩ = some (.int .i64 gp) := (hb2.cell (p := ⟨u1.heap.size, 1, none⟩) (by simp)).trans (by simp)
    have y2 : u2.cell? ⟨u1.heap.size, 2, none⟩ = some (.int .i64 gd) := (hb2.cell (p := ⟨u1.heap.size, 2, none⟩) (by simp)).trans (by simp)
    have y3 : u2.cell? ⟨u1.heap.size, 3, none⟩ = some (.bool gw) := (hb2.cell (p := ⟨u1.heap.size, 3, none⟩) (by simp)).trans (by simp)
    have y4 : u2.cell? ⟨u1.heap.size, 4, none⟩ = some (.bool gt) := (hb2.cell (p := ⟨u1.heap.size, 4, none⟩) (by simp)).trans (by simp)
    have y5 : u2.cell? ⟨u1.heap.size, 5, none⟩ = some (.int .i64 ga) := (hb2.cell (p := ⟨u1.heap.size, 5, none⟩) (by simp)).trans (by simp)
    have ly : u1.heap.size < u2.heap.size := Nat.lt_of_lt_of_le (by simp) hb2.size
    clear hb2 x1 x2 x3 x4
    go_wp2_with fail
    go_quiet (fail)
    go_wp2_with fail
    go_returns
    exact ⟨⟨_, rfl⟩, tab_drewN4 (T2.out.below (Go.Joins.below_alloc1 _ _)), grown_drewN4 (grown_new G2.out _)⟩
end Go.Proofs.Ytenfdcjnfgjilaa
