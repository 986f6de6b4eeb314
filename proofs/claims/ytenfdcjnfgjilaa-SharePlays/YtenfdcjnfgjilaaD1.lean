/- Grants: a call of the laws: Offer. -/
import Derived.Test.YtenfdcjnfgjilaaS8
namespace Go.Proofs.Ytenfdcjnfgjilaa
open Go.ChangeShapes Go.WideShapes Go.ChangeAt Go.RowKit Go.Maps
set_option linter.unusedSimpArgs false
set_option linter.unusedVariables false
set_option maxRecDepth 8000
set_option maxRecDepth 8000
set_option maxRecDepth 8000

set_option maxHeartbeats 8000000 in
theorem does1 (b : Nat) (T : Nat → Gr) (A B P : Int) (X : Bool) (w : World) (h : IsTab w b T) :
    Calls Try.prog 9 #[.pointer (some ⟨b, 0, none⟩), .slice none 0 0, .agg #[.int .i64 1, .int .i64 A, .int .i64 B, .int .i64 P, .bool X]] w fun e w' => (∃ v, e = .returned v) ∧ IsTab w' b (offT T A P B X) ∧ w.grownBy w' (some b) := by
  have hb := h.2.2
  have HT : Hid (IsTab w b T) := h
  clear h
  have CO : Hid (∀ W : World, IsTab W b T → Calls Try.prog 17 #[.pointer (some ⟨b, 0, none⟩), .int .i64 A, .int .i64 P, .int .i64 B, .bool X] W fun e w' => e = .returned (.tuple #[.int .i64 (offI T A P B), .int .i64 (offE T A P B)]) ∧ IsTab w' b (offT T A P B X) ∧ W.grownBy w' (some b)) := fun W h => offer_any b T A P B X W h
  have RO : Hid (∀ W : World, Calls Try.prog 22 #[.slice none 0 0, .int .i64 A, .int .i64 P, .int .i64 B, .bool X] W fun e w' => (∃ q n c z y, e = .returned (.tuple #[.slice q n c, .int .i64 z, .int .i64 y])) ∧ Below W.heap.size W w') := fun W => roffer_nil A P B X W
  generalize offI T A P B = ri at CO
  generalize offE T A P B = re at CO
  generalize offT T A P B X = TN at CO ⊢
  go_enter Try.func9, Try.ntmps9
  go_wp2_with fail
  refine (CO.out _ (HT.out.below (Go.Joins.below_alloc1 _ _))).mono ?_
  rintro e u1 ⟨rfl, h1, h2⟩
  have x1 : u1.cell? ⟨w.heap.size, 1, none⟩ = some (.int .i64 A) := cell_grown h2 (by simp) (by omega) (by simp)
  have x2 : u1.cell? ⟨w.heap.size, 2, none⟩ = some (.int .i64 B) := cell_grown h2 (by simp) (by omega) (by simp)
  have x3 : u1.cell? ⟨w.heap.size, 3, none⟩ = some (.int .i64 P) := cell_grown h2 (by simp) (by omega) (by simp)
  have x4 : u1.cell? ⟨w.heap.size, 4, none⟩ = some (.bool X) := cell_grown h2 (by simp) (by omega) (by simp)
  have lx : w.heap.size < u1.heap.size := Nat.lt_of_lt_of_le (by simp) h2.size
  have T1 : Hid (IsTab u1 b TN) := h1
  have G1 : Hid (w.grownBy u1 (some b)) := grown_trans (grown_alloc _ _ _) h2
  clear h1 h2
  go_wp2_with fail
  refine (RO.out _).mono ?_
  rintro e u2 ⟨⟨q, n, c, z, y, rfl⟩, hb2⟩
  have T2 : Hid (IsTab u2 b TN) := T1.out.below hb2
  have G2 : Hid (w.grownBy u2 (some b)) := grown_trans G1.out (grown_of_below hb2 _)
  clear hb2 x1 x2 x3 x4
  by_cases c1 : ri = z
  · have e1 : (ri == z) = true := by simp [c1]
    clear c1
    go_wp2_with fail
    go_returns
    exact ⟨⟨_, rfl⟩, T2.out, G2.out⟩
  · have e1 : (ri == z) = false := by simp [c1]
    go_wp2_with fail
    go_returns
    exact ⟨⟨_, rfl⟩, T2.out, G2.out⟩
end Go.Proofs.Ytenfdcjnfgjilaa
