/- Blocks beside the memory; what comes in: uses and accesses; the document's May. -/
import Derived.Test.YtaebihgegiddnaaDoorL6
namespace Go.Proofs.YtaebihgegiddnaaDoor
open Go.ChangeShapes Go.WideShapes Go.ChangeAt Go.RowKit Go.Maps
set_option linter.unusedSimpArgs false
set_option linter.unusedVariables false
set_option maxRecDepth 8000

theorem blk_lt {w : World} {b : Nat} {o : Obj} (h : w.heap[b]? = some o) : b < w.heap.size := blk_lt2 h
theorem below_drw {n : Nat} {w W : World} (h : Below n w W) : Below n w W.drew := ⟨h.os, h.tape, h.output, h.size, h.block⟩
/-- a block's cells -/
abbrev Blk (w : World) (b : Nat) (C : List Value) (t : TypeId) : Prop := w.heap[b]? = some (.cells C.toArray t (0, 0))
theorem Blk.cell {w : World} {b : Nat} {C : List Value} {t : TypeId} (h : Blk w b C t) (i : Nat) : w.cell? ⟨b, i, none⟩ = C[i]? := by rw [Go.Joins.cell_of_block h i]; simp
theorem Blk.free {w : World} {b : Nat} {C : List Value} {t : TypeId} (h : Blk w b C t) (i : Nat) : w.frozen? ⟨b, i, none⟩ = false := Go.Joins.unfrozen_of_block h i
theorem Blk.below {w w' : World} {b : Nat} {C : List Value} {t : TypeId} (h : Blk w b C t) (k : Below w.heap.size w w') : Blk w' b C t := (k.block b (blk_lt h)).trans h
theorem Blk.made (w : World) (C : List Value) (t : TypeId) : Blk (w.alloc (.cells C.toArray t)) w.heap.size C t := own1 w _
theorem Blk.set {w : World} {b : Nat} {C : List Value} {t : TypeId} (h : Blk w b C t) (i : Nat) (v : Value) : Blk (w.setCell ⟨b, i, none⟩ v) b (C.set i v) t := by
  unfold Blk
  rw [Go.Joins.block_setCell h]; simp
theorem Blk.there {w : World} {b : Nat} {C : List Value} {t : TypeId} (h : Blk w b C t) : w.there b 0 C.length := fun j hj => by
  rw [Nat.zero_add]
  exact ⟨by rw [h.cell j, List.getElem?_eq_getElem hj]; rfl, h.free j⟩
theorem Blk.range {w : World} {b : Nat} {C : List Value} {t : TypeId} (h : Blk w b C t) : w.rangeAt b 0 C := fun j v hv => by rw [Nat.zero_add, h.cell j]; exact hv
theorem Blk.kept {w w' : World} {b : Nat} {C : List Value} {t : TypeId} {K : Nat → Prop} (h : Blk w b C t) (k : Kept K w w') (hb : K b) : Blk w' b C t := (k.block b hb).trans h
structure B3 where
  x : Bool
  y : Bool
  z : Bool
abbrev B3.val (s : B3) : Value := .agg #[.bool s.x, .bool s.y, .bool s.z]
theorem cellsPm : Tryd.prog.cellsOf 38 = 3 := by kernel_rfl
theorem cellsAc : Tryd.prog.cellsOf 34 = 3 := by kernel_rfl
theorem perm_cells {H : Type} {enc : TypeId × Value → H} {W : World} {base : Nat} {sp : Nat → Bool} {held : Bool} {x : DataW H} {ps : List MemPlace} {fuel : Nat} {cs : List Value} (hf : DataW.trod enc Tryd.prog W base sp held fuel 38 cs = some (x, ps)) (hl : cs.length = 3) :
    ∃ (a0 : Bool) (a1 : Bool) (a2 : Bool), cs = [.bool a0, .bool a1, .bool a2] ∧ True := by
  obtain ⟨c0, c1, c2, hcs⟩ : ∃ c0 c1 c2, cs = [c0, c1, c2] := by
    revert hl
    match cs with
    | [c0, c1, c2] => intro _; exact ⟨c0, c1, c2, rfl⟩
    | [] => intro q; cases q
    | [_] => intro q; cases q
    | [_, _] => intro q; cases q
    | _ :: _ :: _ :: _ :: _ => intro q; simp at q
  subst hcs
  obtain ⟨zs, m, _, _, jl, jlen, jf⟩ := DataW.trod_struct Tryd.underlying38 hf
  have jg : ∀ i, i < 3 → ∃ y, zs[i]? = some y := fun i hi => ⟨_, List.getElem?_eq_getElem (by rw [jlen]; exact hi)⟩
  obtain ⟨⟨z0a, z0b⟩, m0⟩ := jg 0 (by omega)
  obtain ⟨b0, e0, _⟩ := DataW.trod_bool Tryd.underlying4 ((jf 0 _ rfl).trans m0)
  obtain rfl := cell_of cellsB e0 (c := c0) (by first | rfl | (rw [cellsB]; rfl))
  obtain ⟨⟨z1a, z1b⟩, m1⟩ := jg 1 (by omega)
  obtain ⟨b1, e1, _⟩ := DataW.trod_bool Tryd.underlying4 ((jf 1 _ rfl).trans m1)
  obtain rfl := cell_of cellsB e1 (c := c1) (by first | rfl | (rw [cellsB]; rfl))
  obtain ⟨⟨z2a, z2b⟩, m2⟩ := jg 2 (by omega)
  obtain ⟨b2, e2, _⟩ := DataW.trod_bool Tryd.underlying4 ((jf 2 _ rfl).trans m2)
  obtain rfl := cell_of cellsB e2 (c := c2) (by first | rfl | (rw [cellsB]; rfl))
  exact ⟨_, _, _, rfl, trivial⟩
theorem acc_cells {H : Type} {enc : TypeId × Value → H} {W : World} {base : Nat} {sp : Nat → Bool} {held : Bool} {x : DataW H} {ps : List MemPlace} {fuel : Nat} {cs : List Value} (hf : DataW.trod enc Tryd.prog W base sp held fuel 34 cs = some (x, ps)) (hl : cs.length = 3) :
    ∃ (a0 : Bool) (a1 : Bool) (a2 : Bool), cs = [.bool a0, .bool a1, .bool a2] ∧ True := by
  obtain ⟨c0, c1, c2, hcs⟩ : ∃ c0 c1 c2, cs = [c0, c1, c2] := by
    revert hl
    match cs with
    | [c0, c1, c2] => intro _; exact ⟨c0, c1, c2, rfl⟩
    | [] => intro q; cases q
    | [_] => intro q; cases q
    | [_, _] => intro q; cases q
    | _ :: _ :: _ :: _ :: _ => intro q; simp at q
  subst hcs
  obtain ⟨zs, m, _, _, jl, jlen, jf⟩ := DataW.trod_struct Tryd.underlying34 hf
  have jg : ∀ i, i < 3 → ∃ y, zs[i]? = some y := fun i hi => ⟨_, List.getElem?_eq_getElem (by rw [jlen]; exact hi)⟩
  obtain ⟨⟨z0a, z0b⟩, m0⟩ := jg 0 (by omega)
  obtain ⟨b0, e0, _⟩ := DataW.trod_bool Tryd.underlying4 ((jf 0 _ rfl).trans m0)
  obtain rfl := cell_of cellsB e0 (c := c0) (by first | rfl | (rw [cellsB]; rfl))
  obtain ⟨⟨z1a, z1b⟩, m1⟩ := jg 1 (by omega)
  obtain ⟨b1, e1, _⟩ := DataW.trod_bool Tryd.underlying4 ((jf 1 _ rfl).trans m1)
  obtain rfl := cell_of cellsB e1 (c := c1) (by first | rfl | (rw [cellsB]; rfl))
  obtain ⟨⟨z2a, z2b⟩, m2⟩ := jg 2 (by omega)
  obtain ⟨b2, e2, _⟩ := DataW.trod_bool Tryd.underlying4 ((jf 2 _ rfl).trans m2)
  obtain rfl := cell_of cellsB e2 (c := c2) (by first | rfl | (rw [cellsB]; rfl))
  exact ⟨_, _, _, rfl, trivial⟩
theorem open_pm3 {H : Type} {enc : TypeId × Value → H} {W : World} {base : Nat} {sp : Nat → Bool} {held : Bool} {r : Reach} {b0 : Nat} {v : Value} {x : DataW H} {ps : List MemPlace}
    (hv : Value.okWide Tryd.prog W r b0 38 v) (h : DataW.Trod enc Tryd.prog W base sp held 38 v x ps) : ∃ s : B3, v = s.val ∧ True := by
  obtain ⟨cs, rfl, hsz⟩ := okWide_struct Tryd.underlying38 hv
  obtain ⟨fuel, hf⟩ := h
  have hf2 : DataW.trod enc Tryd.prog W base sp held fuel 38 cs.toList = some (x, ps) := hf
  obtain ⟨a0, a1, a2, e, _⟩ := perm_cells hf2 (by rw [Array.length_toList]; exact hsz.trans cellsPm)
  refine ⟨⟨a0, a1, a2⟩, ?_, trivial⟩
  show Value.agg cs = Value.agg _
  rw [← Array.toArray_toList (xs := cs), e]
theorem open_ac3 {H : Type} {enc : TypeId × Value → H} {W : World} {base : Nat} {sp : Nat → Bool} {held : Bool} {r : Reach} {b0 : Nat} {v : Value} {x : DataW H} {ps : List MemPlace}
    (hv : Value.okWide Tryd.prog W r b0 34 v) (h : DataW.Trod enc Tryd.prog W base sp held 34 v x ps) : ∃ s : B3, v = s.val ∧ True := by
  obtain ⟨cs, rfl, hsz⟩ := okWide_struct Tryd.underlying34 hv
  obtain ⟨fuel, hf⟩ := h
  have hf2 : DataW.trod enc Tryd.prog W base sp held fuel 34 cs.toList = some (x, ps) := hf
  obtain ⟨a0, a1, a2, e, _⟩ := acc_cells hf2 (by rw [Array.length_toList]; exact hsz.trans cellsAc)
  refine ⟨⟨a0, a1, a2⟩, ?_, trivial⟩
  show Value.agg cs = Value.agg _
  rw [← Array.toArray_toList (xs := cs), e]

theorem pm_info : (Tryd.prog.info? 38).map (·.size) = some 3 := by kernel_rfl
theorem ac_info : (Tryd.prog.info? 34).map (·.size) = some 3 := by kernel_rfl
set_option maxHeartbeats 1000000 in
theorem rmay_any (pw pu px x u f : Bool) (w : World) : Calls Tryd.prog 33 #[.bool pw, .bool pu, .bool px, .agg #[.bool x, .bool u, .bool f]] w fun e w' => e = .returned (.bool (mayV pw pu px x u f)) ∧ Below w.heap.size w w' := by
  cases pw <;> cases pu <;> cases px <;> cases x <;> cases u <;> cases f <;>
    (go_enter Tryd.func33, Tryd.ntmps33
     go_wp2_with fail
     go_ret
     exact ⟨rfl, below_new (Below.refl _ _) _⟩)
end Go.Proofs.YtaebihgegiddnaaDoor
