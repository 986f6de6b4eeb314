/- The document's queue: Add. -/
import Derived.Test.YtcamghafjgjgdaaJ0
import Derived.Deep.DeepCutAuto
namespace Go.Proofs.Ytcamghafjgjgdaa
open Go.ChangeShapes Go.WideShapes Go.ChangeAt Go.RowKit Go.Maps
set_option linter.unusedSimpArgs false
set_option linter.unusedVariables false

theorem results_one {fn : Func} {p : Tmp} {t : TypeId} (h : fn.results = #[.cell p t]) (tmps : Array Value) (P : Program) (w : World) (a : Addr) (x : Value)
    (ha : tmps.getD p undef = .pointer (some a)) (hx : (loadVar t a).run P w = .ok x w) : (results fn tmps).run P w = .ok x w := by
  simp only [results, h]
  have e1 : ∀ W : World, (asAddr (Value.pointer (some a))).run P W = .ok a W := fun _ => rfl
  simp at ha
  simp [Sem.run_bind, Result.andThen, ha, e1, hx]
theorem results_pair {fn : Func} {p q : Tmp} {t : TypeId} (h : fn.results = #[.cell p t, .tmp q]) (tmps : Array Value) (P : Program) (w : World) (a : Addr) (x y : Value)
    (ha : tmps.getD p undef = .pointer (some a)) (hb : tmps.getD q undef = y) (hx : (loadVar t a).run P w = .ok x w) :
    (results fn tmps).run P w = .ok (.tuple #[x, y]) w := by
  simp only [results, h]
  have e1 : ∀ W : World, (asAddr (Value.pointer (some a))).run P W = .ok a W := fun _ => rfl
  simp at ha hb
  simp [Sem.run_bind, Result.andThen, ha, hb, e1, hx]
/-- a block's cells -/
abbrev Blk (w : World) (b : Nat) (C : List Value) (t : TypeId) : Prop := w.heap[b]? = some (.cells C.toArray t (0, 0))
theorem Blk.cell {w : World} {b : Nat} {C : List Value} {t : TypeId} (h : Blk w b C t) (i : Nat) : w.cell? ⟨b, i, none⟩ = C[i]? := by rw [Go.Joins.cell_of_block h i]; simp
theorem Blk.free {w : World} {b : Nat} {C : List Value} {t : TypeId} (h : Blk w b C t) (i : Nat) : w.frozen? ⟨b, i, none⟩ = false := Go.Joins.unfrozen_of_block h i
theorem Blk.kb {w w' : World} {b x : Nat} {C : List Value} {t : TypeId} (h : Blk w b C t) (k : Kb x w w') (ne : b ≠ x) : Blk w' b C t := (k.block b (blk_lt h) ne).trans h
theorem Blk.below {w w' : World} {b : Nat} {C : List Value} {t : TypeId} (h : Blk w b C t) (k : Below w.heap.size w w') : Blk w' b C t := (k.block b (blk_lt h)).trans h
theorem Blk.made (w : World) (C : List Value) (t : TypeId) : Blk (w.alloc (.cells C.toArray t)) w.heap.size C t := own1 w _
theorem Blk.set {w : World} {b : Nat} {C : List Value} {t : TypeId} (h : Blk w b C t) (i : Nat) (v : Value) : Blk (w.setCell ⟨b, i, none⟩ v) b (C.set i v) t := by
  unfold Blk
  rw [Go.Joins.block_setCell h]; simp
theorem Blk.far {w : World} {b c : Nat} {C : List Value} {t : TypeId} (h : Blk w b C t) (o : Nat) (v : Value) (ne : b ≠ c) : Blk (w.setCell ⟨c, o, none⟩ v) b C t := h.kb (Kb.set w c o v) ne
theorem Blk.there {w : World} {b : Nat} {C : List Value} {t : TypeId} (h : Blk w b C t) : w.there b 0 C.length := fun j hj => by
  rw [Nat.zero_add]
  exact ⟨by rw [h.cell j, List.getElem?_eq_getElem hj]; rfl, h.free j⟩
theorem Blk.range {w : World} {b : Nat} {C : List Value} {t : TypeId} (h : Blk w b C t) : w.rangeAt b 0 C := fun j v hv => by rw [Nat.zero_add, h.cell j]; exact hv
theorem Blk.scs {w : World} {b c : Nat} {C : List Value} {t : TypeId} (h : Blk w b C t) (ne : b ≠ c) : ∀ (vs : List Value) (o : Nat), Blk (w.setCells c o vs) b C t := fun vs => by
  induction vs generalizing w with
  | nil => intro o; exact h
  | cons v r ih => intro o; rw [World.setCells]; exact ih (h.far o v ne) _
theorem app_none (t ty : TypeId) (i : TypeInfo) (z : Value) (e : TypeId) (ht : Try.prog.underlying t = some (.slice e)) (hi : Try.prog.info? e = some i) (hz : i.zero = some z) (w : World) (a : Addr) (c : Nat) : (Builtin.append_ #[t, t] ty #[.slice (some a) 0 0, .slice none 0 c]).run Try.prog w = .ok (.slice (some a) 0 0) w := by
  simp [Builtin.append_, run_underlying ht, sizeOf, typeInfo, zeroValue, hi, hz, Builtin.lenOf, Builtin.firstCells, storeCells]

/-- what is appended behind a new empty row: the row is the call's own -/
theorem app_first (base : Nat) (p : Option Addr) (c : Nat) (L : List Int) (hL : L.length ≤ 1000) (b0 : Nat) (w : World) (h : IsI w p L b0) (hb : base ≤ w.heap.size) :
    ∃ v W2, (Builtin.append_ #[28, 28] 28 #[.slice (some ⟨w.heap.size, 0, none⟩) 0 0, .slice p L.length c]).run Try.prog (w.alloc (.cells #[] 3)) = .ok v W2 ∧ OwnI W2 base v L ∧ Below w.heap.size w W2 := by
  obtain ⟨i0, hi, hz0, hz1, hz2⟩ := infoI
  have B0 : Below w.heap.size w (w.alloc (.cells #[] 3)) := Go.Joins.below_alloc1 _ _
  have O0 := OwnI.made w hb
  cases p with
  | none =>
    have e : L = [] := by
      cases L with
      | nil => rfl
      | cons x r => obtain ⟨g, e, _⟩ := h 0 (by simp); cases e
    subst e
    exact ⟨_, _, app_none 28 _ i0 (.int .i64 0) 3 Try.underlying28 hi hz0 _ _ _, O0, B0⟩
  | some a =>
    have h2 := h.below B0
    obtain ⟨v', W2, r, ho, hg, _, hat⟩ := run_append_own_at (P := Try.prog) (w.alloc (.cells #[] 3)) base 28 28 3 i0 (.int .i64 0) 1 8 Try.underlying28 hi hz0 hz1 hz2 rfl (by decide) (.slice (some ⟨w.heap.size, 0, none⟩) 0 0) 0 [] O0
      a L.length c (L.map (Value.int .i64)) (by simp) (cells_I h2) (all_one L) (by unfold maxLen; omega) (by omega) (by rw [World.size_alloc]; omega)
    rw [List.nil_append, Nat.zero_add] at ho
    refine ⟨v', W2, r, ho, B0.trans ⟨hg.os, hg.tape, hg.output, hg.size, fun k hk => hg.block k (by rw [World.size_alloc]; omega) (fun e => ?_)⟩⟩
    have : k = w.heap.size := Option.some.inj e
    omega
theorem app_next (base : Nat) (v : Value) (L : List Int) (x : Int) (hL : L.length ≤ 1000) (w : World) (h : OwnI w base v L) (hb : base ≤ w.heap.size) :
    ∃ v' W2, (Builtin.append_ #[28, 28] 28 #[v, .slice (some ⟨w.heap.size, 0, none⟩) 1 1]).run Try.prog (w.alloc (.cells #[.int .i64 x] 3)) = .ok v' W2 ∧ OwnI W2 base v' (L ++ [x]) ∧ (w.alloc (.cells #[.int .i64 x] 3)).grownBy W2 v.ownBlock := by
  obtain ⟨i0, hi, hz0, hz1, hz2⟩ := infoI
  have O0 := h.below (Go.Joins.below_alloc1 w (.cells #[.int .i64 x] 3))
  obtain ⟨v', W2, r, ho, hg, _, _⟩ := run_append_own_at (P := Try.prog) (w.alloc (.cells #[.int .i64 x] 3)) base 28 28 3 i0 (.int .i64 0) 1 8 Try.underlying28 hi hz0 hz1 hz2 rfl (by decide) v L.length (L.map (Value.int .i64)) O0
    ⟨w.heap.size, 0, none⟩ 1 1 [.int .i64 x] rfl (one_new (Go.Joins.cell_of_block (own1 w _) 0)) (one_one x) (by unfold maxLen; omega) (by omega) (by rw [World.size_alloc]; omega)
  exact ⟨v', W2, r, OwnI.one ho, hg⟩
end Go.Proofs.Ytcamghafjgjgdaa
