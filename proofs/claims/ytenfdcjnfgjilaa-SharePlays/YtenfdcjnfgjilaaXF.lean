/- Grants: the document's functions on the rows of tables. -/
import Derived.Test.YtenfdcjnfgjilaaX1
import Derived.Test.YtenfdcjnfgjilaaX2
import Derived.Test.YtenfdcjnfgjilaaX3
import Derived.Test.YtenfdcjnfgjilaaX4
namespace Go.Proofs.Ytenfdcjnfgjilaa
open Go.ChangeShapes Go.WideShapes Go.ChangeAt Go.RowKit Go.Maps
set_option linter.unusedSimpArgs false
set_option linter.unusedVariables false
set_option maxRecDepth 8000
set_option maxRecDepth 8000
set_option maxRecDepth 8000

theorem rfind_row (T : Nat → Gr) (base : Nat) (q : Option Addr) (c : Nat) (i : Int) (w : World) (h : IsRq w base q (rowG T 256)) :
    Calls Try.prog 16 #[.slice q (rowG T 256).length c, .int .i64 i] w fun e w' => e = .returned (.tuple #[(findV T i).val, .bool (getG T i).is]) ∧ Below w.heap.size w w' := by
  have := rfind_any base q c (rowG T 256) (row_len T 256) i w h
  rw [find_row] at this; exact this
theorem rput_row (T : Nat → Gr) (base : Nat) (q : Option Addr) (c : Nat) (k : Nat) (g : Gr) (hk : k < 256) (hg : g.is = true) (w : World) (h : IsRq w base q (rowG T 256)) :
    Calls Try.prog 31 #[.slice q (rowG T 256).length c, (tellG g k).val] w fun e w' => (∃ p' c', e = .returned (.slice p' (rowG (putT T k g) 256).length c') ∧ IsRq w' w.heap.size p' (rowG (putT T k g) 256)) ∧ Below w.heap.size w w' := by
  rw [← row_put T k g hg hk]
  exact (rput_any base q c (rowG T 256) (row_len T 256) (tellG g k) w h).mono fun e w' ⟨p', c', h1, h2, h3⟩ => ⟨⟨p', c', h1, h2⟩, h3⟩
theorem rwithout_row (T : Nat → Gr) (base : Nat) (q : Option Addr) (c : Nat) (k : Nat) (w : World) (h : IsRq w base q (rowG T 256)) :
    Calls Try.prog 26 #[.slice q (rowG T 256).length c, .int .i64 k] w fun e w' => (∃ p' c', e = .returned (.slice p' (rowG (putT T k Gr.zero) 256).length c') ∧ IsRq w' w.heap.size p' (rowG (putT T k Gr.zero) 256)) ∧ Below w.heap.size w w' := by
  rw [← row_without T k 256]
  exact (rwithout_any base q c (rowG T 256) (row_len T 256) k w h).mono fun e w' ⟨p', c', h1, h2, h3⟩ => ⟨⟨p', c', h1, h2⟩, h3⟩
theorem findV_is {T : Nat → Gr} {i : Int} (h : (getG T i).is = true) : findV T i = tellG (getG T i) i := by unfold findV; rw [if_pos h]
theorem findV_no {T : Nat → Gr} {i : Int} (h : (getG T i).is = false) : findV T i = Rq.zero := by unfold findV; rw [if_neg (by rw [h]; simp)]
end Go.Proofs.Ytenfdcjnfgjilaa
