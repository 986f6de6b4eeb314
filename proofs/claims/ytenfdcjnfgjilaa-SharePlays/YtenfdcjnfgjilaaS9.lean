/- Grants: a call of the laws. -/
import Derived.Test.YtenfdcjnfgjilaaD1
import Derived.Test.YtenfdcjnfgjilaaD2
import Derived.Test.YtenfdcjnfgjilaaD3
import Derived.Test.YtenfdcjnfgjilaaD4
import Derived.Test.YtenfdcjnfgjilaaD5
namespace Go.Proofs.Ytenfdcjnfgjilaa
open Go.ChangeShapes Go.WideShapes Go.ChangeAt Go.RowKit Go.Maps
set_option linter.unusedSimpArgs false
set_option linter.unusedVariables false
set_option maxRecDepth 8000
set_option maxRecDepth 8000
set_option maxRecDepth 8000

/-- a call -/
def doesT (T : Nat → Gr) (K A B P : Int) (X : Bool) : Nat → Gr := if K = 1 then offT T A P B X else if K = 2 then accT T A B P else if K = 3 then leaT T A B else if K = 4 then revT T A B else if K = 5 then clrL T (ofL T A 256) else T
theorem does_nil (b : Nat) (T : Nat → Gr) (K A B P : Int) (X : Bool) (w : World) (h : IsTab w b T) :
    Calls Try.prog 9 #[.pointer (some ⟨b, 0, none⟩), .slice none 0 0, .agg #[.int .i64 K, .int .i64 A, .int .i64 B, .int .i64 P, .bool X]] w fun e w' => (∃ v, e = .returned v) ∧ IsTab w' b (doesT T K A B P X) ∧ w.grownBy w' (some b) := by
  unfold doesT
  by_cases h1 : K = 1
  · subst h1; rw [if_pos rfl]; exact does1 b T A B P X w h
  rw [if_neg h1]
  by_cases h2 : K = 2
  · subst h2; rw [if_pos rfl]; exact does2 b T A B P X w h
  rw [if_neg h2]
  by_cases h3 : K = 3
  · subst h3; rw [if_pos rfl]; exact does3 b T A B P X w h
  rw [if_neg h3]
  by_cases h4 : K = 4
  · subst h4; rw [if_pos rfl]; exact does4 b T A B P X w h
  rw [if_neg h4]
  by_cases h5 : K = 5
  · subst h5; rw [if_pos rfl]; exact does5 b T A B P X w h
  rw [if_neg h5]
  exact does0 b T K A B P X ⟨h1, h2, h3, h4, h5⟩ w h
end Go.Proofs.Ytenfdcjnfgjilaa
