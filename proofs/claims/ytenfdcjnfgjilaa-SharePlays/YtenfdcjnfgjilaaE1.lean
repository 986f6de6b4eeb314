/- Grants: a call of the laws with the document's list: Offer. -/
import Derived.Test.YtenfdcjnfgjilaaXO
namespace Go.Proofs.Ytenfdcjnfgjilaa
open Go.ChangeShapes Go.WideShapes Go.ChangeAt Go.RowKit Go.Maps
set_option linter.unusedSimpArgs false
set_option linter.unusedVariables false
set_option maxRecDepth 8000
set_option maxRecDepth 8000
set_option maxRecDepth 8000

set_option maxHeartbeats 8000000 in
theorem rdoes1 (b : Nat) (T : Nat → Gr) (base : Nat) (q : Option Addr) (c : Nat) (hbb : b < base) (A B P : Int) (X : Bool) (w : World) (h : IsTab w b T) (hI : IsRq w base q (rowG T 256)) (hbw : base ≤ w.heap.size) :
    Calls Try.prog 9 #[.pointer (some ⟨b, 0, none⟩), .slice q (rowG T 256).length c, .agg #[.int .i64 1, .int .i64 A, .int .i64 B, .int .i64 P, .bool X]] w fun e w' => (∃ p' c', e = .returned (.tuple #[.slice p' (rowG (offT T A P B X) 256).length c', .bool true]) ∧ IsRq w' base p' (rowG (offT T A P B X) 256)) ∧ IsTab w' b (offT T A P B X) ∧ w.grownBy w' (some b) := by
  have hb := h.2.2
  have HT : Hid (IsTab w b T) := h
  have HI : Hid (IsRq w base q (rowG T 256)) := hI
  clear h hI
  have CO : Hid (∀ W : World, IsTab W b T → Calls Try.prog 17 #[.pointer (some ⟨b, 0, none⟩), .int .i64 A, .int .i64 P, .int .i64 B, .bool X] W fun e w' => e = .returned (.tuple #[.int .i64 (offI T A P B), .int .i64 (offE T A P B)]) ∧ IsTab w' b (offT T A P B X) ∧ W.grownBy w' (some b)) := fun W h => offer_any b T A P B X W h
  have RO := fun W h hw => roffer_row T base q c A P B X W h hw
  generalize offI T A P B = ri at CO RO
  generalize offE T A P B = re at CO RO
  generalize offT T A P B X = TN at CO RO ⊢
  obtain ⟨n0, hn0⟩ : ∃ n0, (rowG T 256).length = n0 := ⟨_, rfl⟩
  rw [hn0] at RO ⊢
  clear hn0
  have RO : Hid _ := RO
  go_enter Try.func9, Try.ntmps9
  go_wp2_with fail
  refine (CO.out _ (HT.out.below (Go.Joins.below_alloc1 _ _))).mono ?_
  rintro e u1 ⟨rfl, h1, h2⟩
  have x1 : u1.cell? ⟨w.heap.size, 1, none⟩ = some (.int .i64 A) := cell_grown h2 (by simp) (by omega) (by simp)
  have x2 : u1.cell? ⟨w.heap.size, 2, none⟩ = some (.int .i64 B) := cell_grown h2 (by simp) (by omega) (by simp)
  have x3 : u1.cell? ⟨w.heap.size, 3, none⟩ = some (.int .i64 P) := cell_grown h2 (by simp) (by omega) (by simp)
  have x4 : u1.cell? ⟨w.heap.size, 4, none⟩ = some (.bool X) := cell_grown h2 (by simp) (by omega) (by simp)
  have lx : w.heap.size < u1.heap.size := Nat.lt_of_lt_of_le (by simp) h2.size
  have T1 : Hid (IsTab u1 b TN) := h1
  have G1 : Hid (w.grownBy u1 (some b)) := grown_trans (grown_alloc _ _ _) h2
  have I1 : Hid (IsRq u1 base q (rowG T 256)) := (HI.out.below (Go.Joins.below_alloc1 _ _)).grown h2 hbb
  clear h1 h2
  go_wp2_with fail
  refine (RO.out _ I1.out (Nat.le_trans hbw G1.out.size)).mono ?_
  rintro e u2 ⟨⟨p', c', rfl, hI'⟩, hb2⟩
  have T2 : Hid (IsTab u2 b TN) := T1.out.below hb2
  have G2 : Hid (w.grownBy u2 (some b)) := grown_trans G1.out (grown_of_below hb2 _)
  have I2 : Hid (IsRq u2 base p' (rowG TN 256)) := hI'
  clear hb2 x1 x2 x3 x4 hI'
  go_wp2_with fail
  go_returns
  exact ⟨⟨p', c', rfl, I2.out⟩, T2.out, G2.out⟩
end Go.Proofs.Ytenfdcjnfgjilaa
