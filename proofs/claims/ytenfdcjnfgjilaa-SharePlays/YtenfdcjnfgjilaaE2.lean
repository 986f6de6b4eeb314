/- Grants: a call of the laws with the document's list: Accept. -/
import Derived.Test.YtenfdcjnfgjilaaXA
namespace Go.Proofs.Ytenfdcjnfgjilaa
open Go.ChangeShapes Go.WideShapes Go.ChangeAt Go.RowKit Go.Maps
set_option linter.unusedSimpArgs false
set_option linter.unusedVariables false
set_option maxRecDepth 8000
set_option maxRecDepth 8000
set_option maxRecDepth 8000

set_option maxHeartbeats 8000000 in
theorem rdoes2 (b : Nat) (T : Nat → Gr) (base : Nat) (q : Option Addr) (c : Nat) (hbb : b < base) (A B P : Int) (X : Bool) (w : World) (h : IsTab w b T) (hI : IsRq w base q (rowG T 256)) (hbw : base ≤ w.heap.size) :
    Calls Try.prog 9 #[.pointer (some ⟨b, 0, none⟩), .slice q (rowG T 256).length c, .agg #[.int .i64 2, .int .i64 A, .int .i64 B, .int .i64 P, .bool X]] w fun e w' => (∃ p' c', e = .returned (.tuple #[.slice p' (rowG (accT T A B P) 256).length c', .bool true]) ∧ IsRq w' base p' (rowG (accT T A B P) 256)) ∧ IsTab w' b (accT T A B P) ∧ w.grownBy w' (some b) := by
  have hb := h.2.2
  have HT : Hid (IsTab w b T) := h
  have HI : Hid (IsRq w base q (rowG T 256)) := hI
  clear h hI
  have CO : Hid (∀ W : World, IsTab W b T → Calls Try.prog 20 #[.pointer (some ⟨b, 0, none⟩), .int .i64 A, .int .i64 B, .int .i64 P] W fun e w' => e = .returned (.int .i64 (accE T A B P)) ∧ IsTab w' b (accT T A B P) ∧ W.grownBy w' (some b)) := fun W h => accept_any b T A B P W h
  have RO := fun W h hw => racc_row T base q c A B P W h hw
  generalize accE T A B P = re at CO RO
  generalize accT T A B P = TN at CO RO ⊢
  obtain ⟨n0, hn0⟩ : ∃ n0, (rowG T 256).length = n0 := ⟨_, rfl⟩
  rw [hn0] at RO ⊢
  clear hn0
  have RO : Hid _ := RO
  go_enter Try.func9, Try.ntmps9
  go_wp2_with fail
  refine (RO.out _ (HI.out.below (Go.Joins.below_alloc1 _ _)) (by rw [World.size_alloc]; omega)).mono ?_
  rintro e u1 ⟨⟨p', c', rfl, hI'⟩, hb1⟩
  have x1 : u1.cell? ⟨w.heap.size, 1, none⟩ = some (.int .i64 A) := (hb1.cell (p := ⟨w.heap.size, 1, none⟩) (by simp)).trans (by simp)
  have x2 : u1.cell? ⟨w.heap.size, 2, none⟩ = some (.int .i64 B) := (hb1.cell (p := ⟨w.heap.size, 2, none⟩) (by simp)).trans (by simp)
  have x3 : u1.cell? ⟨w.heap.size, 3, none⟩ = some (.int .i64 P) := (hb1.cell (p := ⟨w.heap.size, 3, none⟩) (by simp)).trans (by simp)
  have lx : w.heap.size < u1.heap.size := Nat.lt_of_lt_of_le (by simp) hb1.size
  have B1 : Hid (Below w.heap.size w u1) := below_then (Go.Joins.below_alloc1 _ _) hb1
  have I1 : Hid (IsRq u1 base p' (rowG TN 256)) := hI'
  clear hb1 hI'
  go_wp2_with fail
  refine (CO.out _ (HT.out.below B1.out)).mono ?_
  rintro e u2 ⟨rfl, h1, h2⟩
  have T2 : Hid (IsTab u2 b TN) := h1
  have G2 : Hid (w.grownBy u2 (some b)) := grown_trans (grown_of_below B1.out _) h2
  have I2 : Hid (IsRq u2 base p' (rowG TN 256)) := I1.out.grown h2 hbb
  clear h1 h2 x1 x2 x3
  go_wp2_with fail
  go_returns
  exact ⟨⟨p', c', rfl, I2.out⟩, T2.out, G2.out⟩
end Go.Proofs.Ytenfdcjnfgjilaa
