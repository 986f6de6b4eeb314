/- Grants: a call of the laws: Clear; none. -/
import Derived.Test.YtenfdcjnfgjilaaS8
namespace Go.Proofs.Ytenfdcjnfgjilaa
open Go.ChangeShapes Go.WideShapes Go.ChangeAt Go.RowKit Go.Maps
set_option linter.unusedSimpArgs false
set_option linter.unusedVariables false
set_option maxRecDepth 8000
set_option maxRecDepth 8000
set_option maxRecDepth 8000

set_option maxHeartbeats 8000000 in
theorem does5 (b : Nat) (T : Nat → Gr) (A B P : Int) (X : Bool) (w : World) (h : IsTab w b T) :
    Calls Try.prog 9 #[.pointer (some ⟨b, 0, none⟩), .slice none 0 0, .agg #[.int .i64 5, .int .i64 A, .int .i64 B, .int .i64 P, .bool X]] w fun e w' => (∃ v, e = .returned v) ∧ IsTab w' b (clrL T (ofL T A 256)) ∧ w.grownBy w' (some b) := by
  have hb := h.2.2
  have HT : Hid (IsTab w b T) := h
  clear h
  have CO : Hid (∀ W : World, IsTab W b T → Calls Try.prog 19 #[.pointer (some ⟨b, 0, none⟩), .int .i64 A] W fun e w' => (∃ q n c, e = .returned (.slice q n c)) ∧ IsTab w' b (clrL T (ofL T A 256)) ∧ W.grownBy w' (some b)) := fun W h => (clear_any b T A W h).mono fun e w' ⟨v, h1, h2, h3, h4⟩ => by
    obtain ⟨q, c, rfl⟩ := own_size h2
    exact ⟨⟨q, _, c, h1⟩, h3, h4⟩
  have RO : Hid (∀ W : World, Calls Try.prog 11 #[.slice none 0 0, .int .i64 A] W fun e w' => (∃ q c, e = .returned (.slice q 0 c)) ∧ Below W.heap.size W w') := fun W => rof_nil A W
  generalize clrL T (ofL T A 256) = TN at CO ⊢
  go_enter Try.func9, Try.ntmps9
  go_wp2_with fail
  refine (CO.out _ (HT.out.below (Go.Joins.below_alloc1 _ _))).mono ?_
  rintro e u1 ⟨⟨q, n, c, rfl⟩, h1, h2⟩
  have x1 : u1.cell? ⟨w.heap.size, 1, none⟩ = some (.int .i64 A) := cell_grown h2 (by simp) (by omega) (by simp)
  have lx : w.heap.size < u1.heap.size := Nat.lt_of_lt_of_le (by simp) h2.size
  have T1 : Hid (IsTab u1 b TN) := h1
  have G1 : Hid (w.grownBy u1 (some b)) := grown_trans (grown_alloc _ _ _) h2
  clear h1 h2
  go_wp2_with fail
  refine (RO.out _).mono ?_
  rintro e u2 ⟨⟨q2, c2, rfl⟩, hb2⟩
  have T2 : Hid (IsTab u2 b TN) := T1.out.below hb2
  have G2 : Hid (w.grownBy u2 (some b)) := grown_trans G1.out (grown_of_below hb2 _)
  clear hb2 x1
  by_cases cz : n = 0
  · subst cz
    go_wp2_with fail
    refine wp_loop_rounds 1 ?_
    rw [rounds_succ]
    go_wp2_with fail
    go_returns
    exact ⟨⟨_, rfl⟩, T2.out, G2.out⟩
  · have e1 : ((n : Int) != 0) = true := by simp; omega
    have e2 : ((n : Int) == 0) = false := by simp; omega
    have e3 : ¬ ((n : Int) = 0) := by omega
    go_wp2_with fail
    go_returns
    exact ⟨⟨_, rfl⟩, T2.out, G2.out⟩
set_option maxHeartbeats 4000000 in
theorem does0 (b : Nat) (T : Nat → Gr) (K A B P : Int) (X : Bool) (hK : K ≠ 1 ∧ K ≠ 2 ∧ K ≠ 3 ∧ K ≠ 4 ∧ K ≠ 5) (w : World) (h : IsTab w b T) :
    Calls Try.prog 9 #[.pointer (some ⟨b, 0, none⟩), .slice none 0 0, .agg #[.int .i64 K, .int .i64 A, .int .i64 B, .int .i64 P, .bool X]] w fun e w' => (∃ v, e = .returned v) ∧ IsTab w' b T ∧ w.grownBy w' (some b) := by
  obtain ⟨h1, h2, h3, h4, h5⟩ := hK
  have e1 : (K == 1) = false := by simp [h1]
  have e2 : (K == 2) = false := by simp [h2]
  have e3 : (K == 3) = false := by simp [h3]
  have e4 : (K == 4) = false := by simp [h4]
  have e5 : (K == 5) = false := by simp [h5]
  have HT : Hid (IsTab w b T) := h
  clear h
  go_enter Try.func9, Try.ntmps9
  go_wp2_with fail
  go_returns
  exact ⟨⟨_, rfl⟩, HT.out.below (Go.Joins.below_alloc1 _ _), grown_alloc _ _ _⟩
end Go.Proofs.Ytenfdcjnfgjilaa
