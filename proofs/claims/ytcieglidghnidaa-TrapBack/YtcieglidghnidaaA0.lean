/- What stays when one block turns; a block's cells; what is loaded and stored. -/
import Derived.Test.YtcieglidghnidaaChecked
import Derived.WalkKit
import Derived.ProofKit
import Derived.OpenShut
import Derived.Carry
import Derived.Lib.SmallJoins
import Derived.Deep.Light
import Derived.Deep.MidRow
import Derived.Deep.RegionHeld3
import Derived.Deep.DrawnRows
import Derived.Handy
import Derived.Laws.MakeOwn
import Derived.MapKept
import Derived.Laws.Tables
import Derived.Laws.CopyRow
import Derived.BigQuiet
import Derived.Deep.QuietTactic
import Derived.ChangeKeysEq
import Derived.Laws.StructEq
import Derived.Deep.DeepCutAuto
import Derived.Deep.CutBlock
namespace Go.Proofs.Ytcieglidghnidaa
open Go.ChangeShapes Go.WideShapes Go.ChangeAt Go.RowKit Go.Maps
set_option linter.unusedSimpArgs false
set_option linter.unusedVariables false

theorem below_new {w w' : World} (h : Below w.heap.size w w') (o : Obj) : Below w.heap.size w (w'.alloc o) := h.alloc h.size o
theorem below_then {w x y : World} (h1 : Below w.heap.size w x) (h2 : Below x.heap.size x y) : Below w.heap.size w y := h1.trans (Go.Joins.below_le h2 h1.size)
theorem below_drew {n : Nat} {w W : World} (h : Below n w W) : Below n w W.drew := ⟨h.os, h.tape, h.output, h.size, h.block⟩
theorem own1 (w : World) (o : Obj) : (w.alloc o).heap[w.heap.size]? = some o := (MapKept.heap_alloc w o).1
theorem blk_lt {w : World} {b : Nat} {o : Obj} (h : w.heap[b]? = some o) : b < w.heap.size := (Array.getElem?_eq_some_iff.1 h).1
theorem wf64 {k : Int} (h0 : -9223372036854775808 ≤ k) (h1 : k ≤ 9223372036854775807) : (Lit.int .i64 k).wf = true := by
  simp [Lit.wf, IntKind.min, IntKind.max, IntKind.signed, IntKind.bits]; omega

/-! ### what stays when one block turns -/
structure Kb (x : Nat) (w w' : World) : Prop where
  os : w'.os = w.os
  tape : w'.tape = w.tape
  output : w'.output = w.output
  size : w.heap.size ≤ w'.heap.size
  block : ∀ k, k < w.heap.size → k ≠ x → w'.heap[k]? = w.heap[k]?
theorem Kb.refl (x : Nat) (w : World) : Kb x w w := ⟨rfl, rfl, rfl, Nat.le_refl _, fun _ _ _ => rfl⟩
theorem Kb.trans {x : Nat} {a b c : World} (h : Kb x a b) (k : Kb x b c) : Kb x a c :=
  ⟨k.os.trans h.os, k.tape.trans h.tape, k.output.trans h.output, Nat.le_trans h.size k.size, fun j hj h1 => (k.block j (Nat.lt_of_lt_of_le hj h.size) h1).trans (h.block j hj h1)⟩
theorem Kb.below {x : Nat} {a b : World} (h : Below a.heap.size a b) : Kb x a b := ⟨h.os, h.tape, h.output, h.size, fun j hj _ => h.block j hj⟩
theorem Kb.drew {x : Nat} {a b : World} (h : Kb x a b) : Kb x a b.drew := ⟨h.os, h.tape, h.output, h.size, h.block⟩
theorem Kb.set (w : World) (b o : Nat) (v : Value) : Kb b w (w.setCell ⟨b, o, none⟩ v) := by
  have h : Below 0 w (w.setCell ⟨b, o, none⟩ v) := (Below.refl 0 w).setCell (Nat.zero_le _) v
  exact ⟨h.os, h.tape, h.output, h.size, fun k hk hne => Below.heap_setCell _ _ _ _ hne⟩
theorem Kb.row (w : World) (b : Nat) (cs : Array Value) : Kb b w (w.setRow b cs) :=
  ⟨rfl, rfl, rfl, by rw [setRow_size]; exact Nat.le_refl _, fun k hk hne => setRow_other w b k cs hne⟩
theorem Kb.cell {x : Nat} {a b : World} (h : Kb x a b) {k i : Nat} (l : k < a.heap.size) (h1 : k ≠ x) : b.cell? ⟨k, i, none⟩ = a.cell? ⟨k, i, none⟩ := World.cell?_of_block (h.block k l h1)

theorem kb_drewN (x : Nat) (w : World) (n : Nat) : Kb x w (w.drewN n) := ⟨rfl, rfl, rfl, Nat.le_refl _, fun _ _ _ => rfl⟩
theorem kb_alloc (x : Nat) (w : World) (o : Obj) : Kb x w (w.alloc o) := Kb.below (Go.Joins.below_alloc1 _ _)
theorem results_one {fn : Func} {p : Tmp} {t : TypeId} (h : fn.results = #[.cell p t]) (tmps : Array Value) (P : Program) (w : World) (a : Addr) (x : Value)
    (ha : tmps.getD p undef = .pointer (some a)) (hx : (loadVar t a).run P w = .ok x w) : (results fn tmps).run P w = .ok x w := by
  simp only [results, h]
  have e1 : ∀ W : World, (asAddr (Value.pointer (some a))).run P W = .ok a W := fun _ => rfl
  simp at ha
  simp [Sem.run_bind, Result.andThen, ha, e1, hx]
theorem results_pair {fn : Func} {p q : Tmp} {t : TypeId} (h : fn.results = #[.cell p t, .tmp q]) (tmps : Array Value) (P : Program) (w : World) (a : Addr) (x y : Value)
    (ha : tmps.getD p undef = .pointer (some a)) (hb : tmps.getD q undef = y) (hx : (loadVar t a).run P w = .ok x w) :
    (results fn tmps).run P w = .ok (.tuple #[x, y]) w := by
  simp only [results, h]
  have e1 : ∀ W : World, (asAddr (Value.pointer (some a))).run P W = .ok a W := fun _ => rfl
  simp at ha hb
  simp [Sem.run_bind, Result.andThen, ha, hb, e1, hx]
/-- a block's cells -/
abbrev Blk (w : World) (b : Nat) (C : List Value) (t : TypeId) : Prop := w.heap[b]? = some (.cells C.toArray t (0, 0))
theorem Blk.cell {w : World} {b : Nat} {C : List Value} {t : TypeId} (h : Blk w b C t) (i : Nat) : w.cell? ⟨b, i, none⟩ = C[i]? := by rw [Go.Joins.cell_of_block h i]; simp
theorem Blk.free {w : World} {b : Nat} {C : List Value} {t : TypeId} (h : Blk w b C t) (i : Nat) : w.frozen? ⟨b, i, none⟩ = false := Go.Joins.unfrozen_of_block h i
theorem Blk.kb {w w' : World} {b x : Nat} {C : List Value} {t : TypeId} (h : Blk w b C t) (k : Kb x w w') (ne : b ≠ x) : Blk w' b C t := (k.block b (blk_lt h) ne).trans h
theorem Blk.below {w w' : World} {b : Nat} {C : List Value} {t : TypeId} (h : Blk w b C t) (k : Below w.heap.size w w') : Blk w' b C t := (k.block b (blk_lt h)).trans h
theorem Blk.made (w : World) (C : List Value) (t : TypeId) : Blk (w.alloc (.cells C.toArray t)) w.heap.size C t := own1 w _
theorem Blk.set {w : World} {b : Nat} {C : List Value} {t : TypeId} (h : Blk w b C t) (i : Nat) (v : Value) : Blk (w.setCell ⟨b, i, none⟩ v) b (C.set i v) t := by
  unfold Blk
  rw [Go.Joins.block_setCell h]; simp
theorem Blk.far {w : World} {b c : Nat} {C : List Value} {t : TypeId} (h : Blk w b C t) (o : Nat) (v : Value) (ne : b ≠ c) : Blk (w.setCell ⟨c, o, none⟩ v) b C t := h.kb (Kb.set w c o v) ne
theorem Blk.there {w : World} {b : Nat} {C : List Value} {t : TypeId} (h : Blk w b C t) : w.there b 0 C.length := fun j hj => by
  rw [Nat.zero_add]
  exact ⟨by rw [h.cell j, List.getElem?_eq_getElem hj]; rfl, h.free j⟩
theorem Blk.range {w : World} {b : Nat} {C : List Value} {t : TypeId} (h : Blk w b C t) : w.rangeAt b 0 C := fun j v hv => by rw [Nat.zero_add, h.cell j]; exact hv
theorem store_pat {P : Program} {ops : Array Oper} {rest : List Oper} {ty t : TypeId} {x y : Operand} {pos : String} {af : Array Edge} {a : Act} {w : World} {Q : Exit → Act → World → Prop} (b o : Nat) (cells : Array Value) (hx : a.eval x = .pointer (some ⟨b, o, none⟩)) (hy : a.eval y = .agg cells)
    (ht : w.there b o cells.size) (hi : (P.info? ty).map (·.size) = some cells.size) (h1 : cells.all (·.oneCell') = true)
    (h : wpList P ops Q rest a (w.setCells b o cells.toList)) : wpList P ops Q ({ dst := none, op := .store ty x y, type := t, pos := pos, after := af, guard := none } :: rest) a w :=
  wpList_store_mid rfl ty x y rfl b o cells hx hy ht hi h1 h
theorem load_pat {P : Program} {ops : Array Oper} {rest : List Oper} {ty t : TypeId} {x : Operand} {q : Tmp} {pos : String} {af : Array Edge} {a : Act} {w : World} {Q : Exit → Act → World → Prop} (b o : Nat) (cs : List Value) (d : TypeDesc) (hx : a.eval x = .pointer (some ⟨b, o, none⟩)) (hc : w.rangeAt b o cs)
    (hu : P.underlying ty = some d) (hd : d.isRow = true) (hi : (P.info? ty).map (·.size) = some cs.length)
    (h : wpList P ops Q rest (a.put (some q) (.agg cs.toArray)) w) : wpList P ops Q ({ dst := some q, op := .load ty x, type := t, pos := pos, after := af, guard := none } :: rest) a w :=
  wpList_load_mid rfl ty x rfl b o hx cs d hc hu hd hi h
theorem Blk.scs {w : World} {b c : Nat} {C : List Value} {t : TypeId} (h : Blk w b C t) (ne : b ≠ c) : ∀ (vs : List Value) (o : Nat), Blk (w.setCells c o vs) b C t := fun vs => by
  induction vs generalizing w with
  | nil => intro o; exact h
  | cons v r ih => intro o; rw [World.setCells]; exact ih (h.far o v ne) _
theorem kb_scs {x c : Nat} {w X : World} (h : Kb x w X) (l : w.heap.size ≤ c) : ∀ (vs : List Value) (o : Nat), Kb x w (X.setCells c o vs) := fun vs => by
  induction vs generalizing X with
  | nil => intro o; exact h
  | cons v r ih =>
    intro o
    rw [World.setCells]
    have k := Kb.set X c o v
    exact ih ⟨k.os.trans h.os, k.tape.trans h.tape, k.output.trans h.output, Nat.le_trans h.size k.size, fun j hj hne => (k.block j (Nat.lt_of_lt_of_le hj h.size) (by omega)).trans (h.block j hj hne)⟩ _
theorem kb_set {x c : Nat} {w X : World} (h : Kb x w X) (l : w.heap.size ≤ c) (o : Nat) (v : Value) : Kb x w (X.setCell ⟨c, o, none⟩ v) := kb_scs h l [v] o
end Go.Proofs.Ytcieglidghnidaa
