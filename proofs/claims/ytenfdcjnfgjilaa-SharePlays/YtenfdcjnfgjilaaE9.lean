/- Grants: a call of the laws, whichever, with the document's list. -/
import Derived.Test.YtenfdcjnfgjilaaE1
import Derived.Test.YtenfdcjnfgjilaaE2
import Derived.Test.YtenfdcjnfgjilaaE3
import Derived.Test.YtenfdcjnfgjilaaE4
import Derived.Test.YtenfdcjnfgjilaaE5
namespace Go.Proofs.Ytenfdcjnfgjilaa
open Go.ChangeShapes Go.WideShapes Go.ChangeAt Go.RowKit Go.Maps
set_option linter.unusedSimpArgs false
set_option linter.unusedVariables false
set_option maxRecDepth 8000
set_option maxRecDepth 8000
set_option maxRecDepth 8000

set_option maxHeartbeats 4000000 in
theorem rdoes0 (b : Nat) (T : Nat → Gr) (base : Nat) (q : Option Addr) (c : Nat) (K A B P : Int) (X : Bool) (hK : K ≠ 1 ∧ K ≠ 2 ∧ K ≠ 3 ∧ K ≠ 4 ∧ K ≠ 5) (w : World) (h : IsTab w b T) (hI : IsRq w base q (rowG T 256)) :
    Calls Try.prog 9 #[.pointer (some ⟨b, 0, none⟩), .slice q (rowG T 256).length c, .agg #[.int .i64 K, .int .i64 A, .int .i64 B, .int .i64 P, .bool X]] w fun e w' => (∃ p' c', e = .returned (.tuple #[.slice p' (rowG (T) 256).length c', .bool true]) ∧ IsRq w' base p' (rowG (T) 256)) ∧ IsTab w' b (T) ∧ w.grownBy w' (some b) := by
  obtain ⟨h1, h2, h3, h4, h5⟩ := hK
  have e1 : (K == 1) = false := by simp [h1]
  have e2 : (K == 2) = false := by simp [h2]
  have e3 : (K == 3) = false := by simp [h3]
  have e4 : (K == 4) = false := by simp [h4]
  have e5 : (K == 5) = false := by simp [h5]
  have HT : Hid (IsTab w b T) := h
  have HI : Hid (IsRq w base q (rowG T 256)) := hI
  clear h hI
  obtain ⟨n0, hn0⟩ : ∃ n0, (rowG T 256).length = n0 := ⟨_, rfl⟩
  rw [hn0]
  clear hn0
  go_enter Try.func9, Try.ntmps9
  go_wp2_with fail
  go_returns
  first | exact ⟨⟨q, c, rfl, HI.out.below (Go.Joins.below_alloc1 _ _)⟩, HT.out.below (Go.Joins.below_alloc1 _ _), grown_alloc _ _ _⟩ | exact ⟨⟨q, ⟨c, rfl⟩, HI.out.below (Go.Joins.below_alloc1 _ _)⟩, HT.out.below (Go.Joins.below_alloc1 _ _), grown_alloc _ _ _⟩
theorem rdoes_any (b : Nat) (T : Nat → Gr) (base : Nat) (q : Option Addr) (c : Nat) (hbb : b < base) (K A B P : Int) (X : Bool) (w : World) (h : IsTab w b T) (hI : IsRq w base q (rowG T 256)) (hbw : base ≤ w.heap.size) :
    Calls Try.prog 9 #[.pointer (some ⟨b, 0, none⟩), .slice q (rowG T 256).length c, .agg #[.int .i64 K, .int .i64 A, .int .i64 B, .int .i64 P, .bool X]] w fun e w' => (∃ p' c', e = .returned (.tuple #[.slice p' (rowG (doesT T K A B P X) 256).length c', .bool true]) ∧ IsRq w' base p' (rowG (doesT T K A B P X) 256)) ∧ IsTab w' b (doesT T K A B P X) ∧ w.grownBy w' (some b) := by
  unfold doesT
  by_cases h1 : K = 1
  · subst h1; rw [if_pos rfl]; exact rdoes1 b T base q c hbb A B P X w h hI hbw
  rw [if_neg h1]
  by_cases h2 : K = 2
  · subst h2; rw [if_pos rfl]; exact rdoes2 b T base q c hbb A B P X w h hI hbw
  rw [if_neg h2]
  by_cases h3 : K = 3
  · subst h3; rw [if_pos rfl]; exact rdoes3 b T base q c hbb A B P X w h hI hbw
  rw [if_neg h3]
  by_cases h4 : K = 4
  · subst h4; rw [if_pos rfl]; exact rdoes4 b T base q c hbb A B P X w h hI hbw
  rw [if_neg h4]
  by_cases h5 : K = 5
  · subst h5; rw [if_pos rfl]; exact rdoes5 b T base q c hbb A B P X w h hI hbw
  rw [if_neg h5]
  exact rdoes0 b T base q c K A B P X ⟨h1, h2, h3, h4, h5⟩ w h hI
end Go.Proofs.Ytenfdcjnfgjilaa
