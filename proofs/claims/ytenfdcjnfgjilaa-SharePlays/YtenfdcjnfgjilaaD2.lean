/- Grants: a call of the laws: Accept. -/
import Derived.Test.YtenfdcjnfgjilaaS8
namespace Go.Proofs.Ytenfdcjnfgjilaa
open Go.ChangeShapes Go.WideShapes Go.ChangeAt Go.RowKit Go.Maps
set_option linter.unusedSimpArgs false
set_option linter.unusedVariables false
set_option maxRecDepth 8000
set_option maxRecDepth 8000
set_option maxRecDepth 8000

set_option maxHeartbeats 8000000 in
theorem does2 (b : Nat) (T : Nat → Gr) (A B P : Int) (X : Bool) (w : World) (h : IsTab w b T) :
    Calls Try.prog 9 #[.pointer (some ⟨b, 0, none⟩), .slice none 0 0, .agg #[.int .i64 2, .int .i64 A, .int .i64 B, .int .i64 P, .bool X]] w fun e w' => (∃ v, e = .returned v) ∧ IsTab w' b (accT T A B P) ∧ w.grownBy w' (some b) := by
  have hb := h.2.2
  have HT : Hid (IsTab w b T) := h
  clear h
  have CO : Hid (∀ W : World, IsTab W b T → Calls Try.prog 20 #[.pointer (some ⟨b, 0, none⟩), .int .i64 A, .int .i64 B, .int .i64 P] W fun e w' => e = .returned (.int .i64 (accE T A B P)) ∧ IsTab w' b (accT T A B P) ∧ W.grownBy w' (some b)) := fun W h => accept_any b T A B P W h
  have RO : Hid (∀ W : World, Calls Try.prog 23 #[.slice none 0 0, .int .i64 A, .int .i64 B, .int .i64 P] W fun e w' => e = .returned (.tuple #[.slice none 0 0, .int .i64 5]) ∧ Below W.heap.size W w') := fun W => racc_nil A B P W
  generalize accE T A B P = re at CO
  generalize accT T A B P = TN at CO ⊢
  go_enter Try.func9, Try.ntmps9
  go_wp2_with fail
  refine (RO.out _).mono ?_
  rintro e u1 ⟨rfl, hb1⟩
  have x1 : u1.cell? ⟨w.heap.size, 1, none⟩ = some (.int .i64 A) := (hb1.cell (p := ⟨w.heap.size, 1, none⟩) (by simp)).trans (by simp)
  have x2 : u1.cell? ⟨w.heap.size, 2, none⟩ = some (.int .i64 B) := (hb1.cell (p := ⟨w.heap.size, 2, none⟩) (by simp)).trans (by simp)
  have x3 : u1.cell? ⟨w.heap.size, 3, none⟩ = some (.int .i64 P) := (hb1.cell (p := ⟨w.heap.size, 3, none⟩) (by simp)).trans (by simp)
  have lx : w.heap.size < u1.heap.size := Nat.lt_of_lt_of_le (by simp) hb1.size
  have B1 : Hid (Below w.heap.size w u1) := below_then (Go.Joins.below_alloc1 _ _) hb1
  clear hb1
  go_wp2_with fail
  refine (CO.out _ (HT.out.below B1.out)).mono ?_
  rintro e u2 ⟨rfl, h1, h2⟩
  have T2 : Hid (IsTab u2 b TN) := h1
  have G2 : Hid (w.grownBy u2 (some b)) := grown_trans (grown_of_below B1.out _) h2
  clear h1 h2 x1 x2 x3
  go_wp2_with fail
  go_returns
  exact ⟨⟨_, rfl⟩, T2.out, G2.out⟩
end Go.Proofs.Ytenfdcjnfgjilaa
