/- The queue in memory: a struct of nineteen cells. -/
import Derived.Test.YtcamghafjgjgdaaChecked
import Derived.WalkKit
import Derived.ProofKit
import Derived.OpenShut
import Derived.Carry
import Derived.Lib.SmallJoins
import Derived.Deep.Light
import Derived.Deep.MidRow
import Derived.Deep.RegionHeld3
import Derived.Deep.DrawnRows
import Derived.Handy
import Derived.Laws.MakeOwn
import Derived.MapKept
import Derived.Laws.Tables
import Derived.Laws.CopyRow
namespace Go.Proofs.Ytcamghafjgjgdaa
open Go.ChangeShapes Go.WideShapes Go.ChangeAt Go.RowKit Go.Maps
set_option linter.unusedSimpArgs false
set_option linter.unusedVariables false

theorem below_new {w w' : World} (h : Below w.heap.size w w') (o : Obj) : Below w.heap.size w (w'.alloc o) := h.alloc h.size o
theorem below_then {w x y : World} (h1 : Below w.heap.size w x) (h2 : Below x.heap.size x y) : Below w.heap.size w y := h1.trans (Go.Joins.below_le h2 h1.size)
theorem below_drew {n : Nat} {w W : World} (h : Below n w W) : Below n w W.drew := ⟨h.os, h.tape, h.output, h.size, h.block⟩
theorem own1 (w : World) (o : Obj) : (w.alloc o).heap[w.heap.size]? = some o := (MapKept.heap_alloc w o).1
theorem blk_lt {w : World} {b : Nat} {o : Obj} (h : w.heap[b]? = some o) : b < w.heap.size := (Array.getElem?_eq_some_iff.1 h).1
theorem wf64 {k : Int} (h0 : -9223372036854775808 ≤ k) (h1 : k ≤ 9223372036854775807) : (Lit.int .i64 k).wf = true := by
  simp [Lit.wf, IntKind.min, IntKind.max, IntKind.signed, IntKind.bits]; omega

/-! ### what stays when one block turns -/
structure Kb (x : Nat) (w w' : World) : Prop where
  os : w'.os = w.os
  tape : w'.tape = w.tape
  output : w'.output = w.output
  size : w.heap.size ≤ w'.heap.size
  block : ∀ k, k < w.heap.size → k ≠ x → w'.heap[k]? = w.heap[k]?
theorem Kb.refl (x : Nat) (w : World) : Kb x w w := ⟨rfl, rfl, rfl, Nat.le_refl _, fun _ _ _ => rfl⟩
theorem Kb.trans {x : Nat} {a b c : World} (h : Kb x a b) (k : Kb x b c) : Kb x a c :=
  ⟨k.os.trans h.os, k.tape.trans h.tape, k.output.trans h.output, Nat.le_trans h.size k.size, fun j hj h1 => (k.block j (Nat.lt_of_lt_of_le hj h.size) h1).trans (h.block j hj h1)⟩
theorem Kb.below {x : Nat} {a b : World} (h : Below a.heap.size a b) : Kb x a b := ⟨h.os, h.tape, h.output, h.size, fun j hj _ => h.block j hj⟩
theorem Kb.drew {x : Nat} {a b : World} (h : Kb x a b) : Kb x a b.drew := ⟨h.os, h.tape, h.output, h.size, h.block⟩
theorem Kb.set (w : World) (b o : Nat) (v : Value) : Kb b w (w.setCell ⟨b, o, none⟩ v) := by
  have h : Below 0 w (w.setCell ⟨b, o, none⟩ v) := (Below.refl 0 w).setCell (Nat.zero_le _) v
  exact ⟨h.os, h.tape, h.output, h.size, fun k hk hne => Below.heap_setCell _ _ _ _ hne⟩
theorem Kb.row (w : World) (b : Nat) (cs : Array Value) : Kb b w (w.setRow b cs) :=
  ⟨rfl, rfl, rfl, by rw [setRow_size]; exact Nat.le_refl _, fun k hk hne => setRow_other w b k cs hne⟩
theorem Kb.cell {x : Nat} {a b : World} (h : Kb x a b) {k i : Nat} (l : k < a.heap.size) (h1 : k ≠ x) : b.cell? ⟨k, i, none⟩ = a.cell? ⟨k, i, none⟩ := World.cell?_of_block (h.block k l h1)

/-! ### the queue -/
/-- a queue: how many ticks a turn has, how many of this one went by, who waits -/
structure Qu where
  q : Int
  t : Int
  L : List Int
def pad (L : List Int) : List Int := L ++ List.replicate (16 - L.length) 0
def Qu.nums (S : Qu) : List Int := S.q :: S.t :: (S.L.length : Int) :: pad S.L
def Qu.cells (S : Qu) : List Value := S.nums.map (Value.int .i64)
/-- the block b is this queue -/
structure IsQ (w : World) (b : Nat) (S : Qu) : Prop where
  blk : w.heap[b]? = some (.cells S.cells.toArray 48 (0, 0))
  few : S.L.length ≤ 16
theorem pad_len {L : List Int} (h : L.length ≤ 16) : (pad L).length = 16 := by simp [pad]; omega
theorem IsQ.kept {w w' : World} {b : Nat} {S : Qu} (h : IsQ w b S) (hb : b < w.heap.size → w'.heap[b]? = w.heap[b]?) : IsQ w' b S := ⟨(hb (blk_lt h.blk)).trans h.blk, h.few⟩
theorem IsQ.below {w w' : World} {b : Nat} {S : Qu} (h : IsQ w b S) (hb : Below w.heap.size w w') : IsQ w' b S := h.kept (fun l => hb.block b l)
theorem IsQ.cell {w : World} {b : Nat} {S : Qu} (h : IsQ w b S) (i : Nat) : w.cell? ⟨b, i, none⟩ = (S.nums[i]?).map (Value.int .i64) := by
  rw [Go.Joins.cell_of_block h.blk i]; simp [Qu.cells]
theorem IsQ.free {w : World} {b : Nat} {S : Qu} (h : IsQ w b S) (i : Nat) : w.frozen? ⟨b, i, none⟩ = false := Go.Joins.unfrozen_of_block h.blk i
theorem IsQ.c0 {w : World} {b : Nat} {S : Qu} (h : IsQ w b S) : w.cell? ⟨b, 0, none⟩ = some (.int .i64 S.q) := h.cell 0
theorem IsQ.c1 {w : World} {b : Nat} {S : Qu} (h : IsQ w b S) : w.cell? ⟨b, 1, none⟩ = some (.int .i64 S.t) := h.cell 1
theorem IsQ.c2 {w : World} {b : Nat} {S : Qu} (h : IsQ w b S) : w.cell? ⟨b, 2, none⟩ = some (.int .i64 (S.L.length : Int)) := h.cell 2
theorem IsQ.cl {w : World} {b : Nat} {S : Qu} (h : IsQ w b S) (i : Nat) (hi : i < S.L.length) : w.cell? ⟨b, 3 + i, none⟩ = some (.int .i64 (S.L[i])) := by
  rw [h.cell (3 + i), show 3 + i = i + 1 + 1 + 1 by omega]
  simp [Qu.nums, pad, List.getElem?_append_left hi]
theorem IsQ.there {w : World} {b : Nat} {S : Qu} (h : IsQ w b S) (i : Nat) (hi : i < 16) : ∃ v, w.cell? ⟨b, 3 + i, none⟩ = some (.int .i64 v) := by
  rw [h.cell (3 + i), show 3 + i = i + 1 + 1 + 1 by omega]
  have := pad_len h.few
  exact ⟨(pad S.L)[i], by simp [Qu.nums, List.getElem?_eq_getElem (show i < (pad S.L).length by omega)]⟩
/-- what the call makes alone is turned -/
def Own (w W : World) (b : Nat) (S : Qu) : Prop := IsQ W b S ∧ Below w.heap.size w W ∧ w.heap.size ≤ b
theorem Own.next {w W W' : World} {b : Nat} {S S' : Qu} (h : Own w W b S) (hT : IsQ W' b S') (hg : Kb b W W') : Own w W' b S' := by
  obtain ⟨_, hb, l1⟩ := h
  exact ⟨hT, hb.trans ⟨hg.os, hg.tape, hg.output, hg.size, fun k hk => hg.block k (Nat.lt_of_lt_of_le hk hb.size) (by omega)⟩, l1⟩
theorem Own.grow {w W W' : World} {b : Nat} {S : Qu} (h : Own w W b S) (hb : Below W.heap.size W W') : Own w W' b S := ⟨h.1.below hb, below_then h.2.1 hb, h.2.2⟩

/-! ### cells that turn -/
theorem nums_set {S S' : Qu} {i : Nat} {v : Int} (h : S.nums.set i v = S'.nums) : S.cells.toArray.setIfInBounds i (.int .i64 v) = S'.cells.toArray := by
  rw [Qu.cells, Qu.cells, ← h]
  simp [List.map_set]
theorem IsQ.turn {w : World} {b i : Nat} {S S' : Qu} {v : Int} (h : IsQ w b S) (e : S.nums.set i v = S'.nums) (f : S'.L.length ≤ 16) : IsQ (w.setCell ⟨b, i, none⟩ (.int .i64 v)) b S' := by
  refine ⟨?_, f⟩
  rw [Go.Joins.block_setCell h.blk, nums_set e]
theorem IsQ.tick {w : World} {b : Nat} {S : Qu} (h : IsQ w b S) (v : Int) : IsQ (w.setCell ⟨b, 1, none⟩ (.int .i64 v)) b ⟨S.q, v, S.L⟩ := h.turn rfl h.few
/-- a block whose cells are these numbers, whatever they mean -/
structure IsN (w : World) (b : Nat) (N : List Int) : Prop where
  blk : w.heap[b]? = some (.cells (N.map (Value.int .i64)).toArray 48 (0, 0))
  many : N.length = 19
theorem IsQ.n {w : World} {b : Nat} {S : Qu} (h : IsQ w b S) : IsN w b S.nums := ⟨h.blk, by simp [Qu.nums, pad_len h.few]⟩
theorem IsN.q {w : World} {b : Nat} {N : List Int} {S : Qu} (h : IsN w b N) (e : N = S.nums) (f : S.L.length ≤ 16) : IsQ w b S := ⟨by rw [h.blk, e]; rfl, f⟩
theorem IsN.cell {w : World} {b : Nat} {N : List Int} (h : IsN w b N) (i : Nat) : w.cell? ⟨b, i, none⟩ = (N[i]?).map (Value.int .i64) := by
  rw [Go.Joins.cell_of_block h.blk i]; simp
theorem IsN.free {w : World} {b : Nat} {N : List Int} (h : IsN w b N) (i : Nat) : w.frozen? ⟨b, i, none⟩ = false := Go.Joins.unfrozen_of_block h.blk i
theorem IsN.set {w : World} {b : Nat} {N : List Int} (h : IsN w b N) (i : Nat) (v : Int) : IsN (w.setCell ⟨b, i, none⟩ (.int .i64 v)) b (N.set i v) := by
  refine ⟨?_, by simp [h.many]⟩
  rw [Go.Joins.block_setCell h.blk]
  simp [List.map_set]
theorem IsN.row {w : World} {b : Nat} {N M : List Int} (h : IsN w b N) (hM : M.length = 19) (cs : Array Value) (hc : cs = (M.map (Value.int .i64)).toArray) : IsN (w.setRow b cs) b M := by
  subst hc
  exact ⟨setRow_heap w b _ _ _ _ h.blk, hM⟩
theorem IsN.kept {w w' : World} {b : Nat} {N : List Int} (h : IsN w b N) (hb : b < w.heap.size → w'.heap[b]? = w.heap[b]?) : IsN w' b N := ⟨(hb (blk_lt h.blk)).trans h.blk, h.many⟩
end Go.Proofs.Ytcamghafjgjgdaa
