/- Tags: maps of integers; the tags in memory. -/
import Derived.Test.YtbdakoijhpobdaaChecked
import Derived.WalkKit
import Derived.ProofKit
import Derived.OpenShut
import Derived.Carry
import Derived.Lib.SmallJoins
import Derived.Deep.Light
import Derived.Deep.MidRow
import Derived.Deep.RegionHeld3
import Derived.Deep.DrawnRows
import Derived.Handy
import Derived.Laws.MakeOwn
import Derived.MapKept
import Derived.Laws.Tables
import Derived.Maps.OwnSet
import Derived.Maps.OwnOps
namespace Go.Proofs.Ytbdakoijhpobdaa
open Go.ChangeShapes Go.WideShapes Go.ChangeAt Go.RowKit Go.Maps
set_option linter.unusedSimpArgs false
set_option linter.unusedVariables false

theorem below_new {w w' : World} (h : Below w.heap.size w w') (o : Obj) : Below w.heap.size w (w'.alloc o) := h.alloc h.size o
theorem below_then {w x y : World} (h1 : Below w.heap.size w x) (h2 : Below x.heap.size x y) : Below w.heap.size w y := h1.trans (Go.Joins.below_le h2 h1.size)
theorem below_drew {n : Nat} {w W : World} (h : Below n w W) : Below n w W.drew := ⟨h.os, h.tape, h.output, h.size, h.block⟩
theorem own1 (w : World) (o : Obj) : (w.alloc o).heap[w.heap.size]? = some o := (MapKept.heap_alloc w o).1
theorem blk_lt {w : World} {b : Nat} {o : Obj} (h : w.heap[b]? = some o) : b < w.heap.size := (Array.getElem?_eq_some_iff.1 h).1
theorem grownBy_alloc1 (w : World) (o : Obj) : w.grownBy (w.alloc o) none := World.grownBy_alloc w o none
theorem wf64 {k : Int} (h0 : -9223372036854775808 ≤ k) (h1 : k ≤ 9223372036854775807) : (Lit.int .i64 k).wf = true := by
  simp [Lit.wf, IntKind.min, IntKind.max, IntKind.signed, IntKind.bits]; omega

/-! ### a map of integers -/
theorem keyLaw : Keyed Try.prog 3 := int_keyed Try.underlying3
theorem zeroI (w : World) : (zeroValue 3).run Try.prog w = .ok (.int .i64 0) w := by kernel_rfl
/-- block b is a map of at most n entries, c by count, that holds just this -/
def MapC (w : World) (b n c : Nat) (f : Int → Option Int) : Prop :=
  ∃ D : DataW Unit, w.ownsMap Try.prog 3 (plainElem Try.prog 3) b n D ∧ Maps.size D = c ∧ ∀ k, Maps.has D (.int .i64 k) = (f k).isSome ∧ D.atKey (.int .i64 k) (.lit (.int .i64 0)) = .lit (.int .i64 ((f k).getD 0))
def setF (f : Int → Option Int) (k : Int) (o : Option Int) : Int → Option Int := fun j => if j = k then o else f j
theorem set_same (f : Int → Option Int) (k : Int) (o : Option Int) : setF f k o k = o := if_pos rfl
theorem set_other (f : Int → Option Int) (k : Int) (o : Option Int) (j : Int) (h : j ≠ k) : setF f k o j = f j := if_neg h
def noneF : Int → Option Int := fun _ => none
variable {w : World} {b n c : Nat} {f : Int → Option Int}
theorem MapC.look (h : MapC w b n c f) {k : Int} (hk : (Lit.int .i64 k).wf = true) :
    (Instr.lookup 44 (.map (some b)) (.int .i64 k) true).run Try.prog w = .ok (.tuple #[.int .i64 ((f k).getD 0), .bool (f k).isSome]) w := by
  obtain ⟨D, hown, _, hD⟩ := h
  obtain ⟨v, ps, hrun, hv⟩ := hown.look_ok keyLaw Try.underlying44 (zeroI w) (plainElem_int Try.underlying3 (by decide)) (keyOf_int_mk Try.underlying3 hk)
  obtain ⟨x, rfl, hx, _⟩ := plainElem_int_inv Try.underlying3 hv
  have e := congrArg Prod.fst hx
  simp only [(hD k).2] at e
  have e2 : (f k).getD 0 = x := by simpa using e
  rw [hrun, (hD k).1, e2]
theorem MapC.set (h : MapC w b n c f) (hn : n < maxLen) {k v : Int} (hk : (Lit.int .i64 k).wf = true) (hv : (Lit.int .i64 v).wf = true) :
    ∃ w', (Instr.mapUpdate 44 (.map (some b)) (.int .i64 k) (.int .i64 v)).run Try.prog w = .ok () w' ∧ MapC w' b (n + 1) (if (f k).isSome = true then c else c + 1) (setF f k (some v)) ∧ w.grownBy w' (some b) := by
  obtain ⟨D, hown, hc, hD⟩ := h
  have hkey := keyOf_int_mk Try.underlying3 hk
  obtain ⟨w', hrun, hown', hg⟩ := hown.update keyLaw Try.underlying44 hn hkey (plainElem_int Try.underlying3 hv)
  refine ⟨w', hrun, ⟨_, hown', ?_, ?_⟩, hg⟩
  · rw [Maps.size_put (hown.tidy keyLaw), (hD k).1, hc]
  · intro j
    by_cases e : j = k
    · subst e
      rw [set_same]
      exact ⟨Maps.has_put_same hown.isMap (by trivial) _, Maps.atKey_put_same hown.isMap (by trivial) _ _⟩
    · have ne : (Lit.int .i64 j) ≠ .int .i64 k := by intro q; cases q; exact e rfl
      rw [set_other _ _ _ _ e, Maps.has_put_other ne, Maps.atKey_put_other ne]
      exact hD j
theorem MapC.del (h : MapC w b n c f) {k : Int} (hk : (Lit.int .i64 k).wf = true) (ty : TypeId) :
    ∃ w', (Builtin.delete_ #[44, 3] ty #[.map (some b), .int .i64 k]).run Try.prog w = .ok (.tuple #[]) w' ∧ (∃ c', MapC w' b n c' (setF f k none)) ∧ w.grownBy w' (some b) := by
  obtain ⟨D, hown, hc, hD⟩ := h
  have hkey := keyOf_int_mk Try.underlying3 hk
  obtain ⟨w', hrun, hown', ht⟩ := hown.drop keyLaw Try.underlying44 hkey ty
  refine ⟨w', hrun, ⟨_, _, hown', rfl, ?_⟩, ht.grown⟩
  intro j
  by_cases e : j = k
  · subst e
    rw [set_same]
    exact ⟨Maps.has_del_same, Maps.atKey_del_same _⟩
  · have ne : (Lit.int .i64 j) ≠ .int .i64 k := by intro q; cases q; exact e rfl
    rw [set_other _ _ _ _ e, Maps.has_del_other ne, Maps.atKey_del_other ne]
    exact hD j
theorem MapC.clear (h : MapC w b n c f) (ty : TypeId) :
    ∃ w', (Builtin.clear_ #[44] ty #[.map (some b)]).run Try.prog w = .ok (.tuple #[]) w' ∧ MapC w' b n 0 noneF ∧ w.grownBy w' (some b) := by
  obtain ⟨D, ⟨es, clock, hb, F, hs, rfl⟩, hc, hD⟩ := h
  refine ⟨ChangeMaps.setBlock w b (.map #[] clock), ?_, ⟨.map [], ⟨#[], clock, ChangeMaps.heap_setBlock_same hb _, ⟨by simp, MapKept.stamped_empty clock, by simp⟩, by simp, rfl⟩, rfl, fun k => ⟨rfl, rfl⟩⟩, ⟨rfl, rfl, rfl, by simp [ChangeMaps.setBlock], fun i _ hi => ChangeMaps.heap_setBlock_other hb _ (fun e => hi (by rw [e]))⟩⟩
  simp [Builtin.clear_, run_underlying Try.underlying44, MapKept.run_getObj_map hb, MapKept.run_setObj_map _ hb, Result.andThen]
  rfl
theorem MapC.kept {w' : World} {row : Option Nat} (h : MapC w b n c f) (hg : w.grownBy w' row) (hne : some b ≠ row) : MapC w' b n c f := by
  obtain ⟨D, hown, hD⟩ := h
  exact ⟨D, hown.kept hg hne, hD⟩
theorem MapC.lt (h : MapC w b n c f) : b < w.heap.size := by obtain ⟨D, hown, _⟩ := h; exact hown.lt
theorem MapC.mono (h : MapC w b n c f) {n' : Nat} (hn : n ≤ n') : MapC w b n' c f := by
  obtain ⟨D, hown, hD⟩ := h
  exact ⟨D, hown.mono hn, hD⟩
theorem MapC.made (w : World) : MapC (w.alloc (.map #[] 0)) w.heap.size 0 0 noneF :=
  ⟨.map [], World.ownsMap_made w Try.prog 3 _, rfl, fun _ => ⟨rfl, rfl⟩⟩
theorem MapC.block {w' : World} (h : MapC w b n c f) (hb : w'.heap[b]? = w.heap[b]?) : MapC w' b n c f := by
  obtain ⟨D, ⟨es, clock, h1, r⟩, hD⟩ := h
  exact ⟨D, ⟨es, clock, hb.trans h1, r⟩, hD⟩
theorem MapC.len (h : MapC w b n c f) (ty : TypeId) : (Builtin.len_ #[44] ty #[.map (some b)]).run Try.prog w = .ok (.int .i64 c) w := by
  obtain ⟨D, hown, hc, _⟩ := h
  rw [hown.len Try.underlying44 ty, hc]
theorem MapC.count (h : MapC w b n c f) : c ≤ n := by
  obtain ⟨D, hown, hc, _⟩ := h
  rw [← hc]; exact hown.size_le
/-- a map, however many entries it has -/
def MapI (w : World) (b n : Nat) (f : Int → Option Int) : Prop := ∃ c, MapC w b n c f

/-! ### what stays when three blocks turn -/
structure Kp (x y z : Nat) (w w' : World) : Prop where
  os : w'.os = w.os
  tape : w'.tape = w.tape
  output : w'.output = w.output
  size : w.heap.size ≤ w'.heap.size
  block : ∀ k, k < w.heap.size → k ≠ x → k ≠ y → k ≠ z → w'.heap[k]? = w.heap[k]?
theorem Kp.refl (x y z : Nat) (w : World) : Kp x y z w w := ⟨rfl, rfl, rfl, Nat.le_refl _, fun _ _ _ _ _ => rfl⟩
theorem Kp.trans {x y z : Nat} {a b c : World} (h : Kp x y z a b) (k : Kp x y z b c) : Kp x y z a c :=
  ⟨k.os.trans h.os, k.tape.trans h.tape, k.output.trans h.output, Nat.le_trans h.size k.size, fun j hj h1 h2 h3 => (k.block j (Nat.lt_of_lt_of_le hj h.size) h1 h2 h3).trans (h.block j hj h1 h2 h3)⟩
theorem Kp.grown {x y z : Nat} {a b : World} {r : Nat} (h : a.grownBy b (some r)) (hr : r = x ∨ r = y ∨ r = z) : Kp x y z a b :=
  ⟨h.os, h.tape, h.output, h.size, fun j hj h1 h2 h3 => h.block j hj (fun e => by have := Option.some.inj e; omega)⟩
theorem Kp.below {x y z : Nat} {a b : World} (h : Below a.heap.size a b) : Kp x y z a b := ⟨h.os, h.tape, h.output, h.size, fun j hj _ _ _ => h.block j hj⟩
theorem Kp.drew {x y z : Nat} {a b : World} (h : Kp x y z a b) : Kp x y z a b.drew := ⟨h.os, h.tape, h.output, h.size, h.block⟩
theorem grown_setCell1 (w : World) (b o : Nat) (v : Value) : w.grownBy (w.setCell ⟨b, o, none⟩ v) (some b) := by
  have h : Below 0 w (w.setCell ⟨b, o, none⟩ v) := (Below.refl 0 w).setCell (Nat.zero_le _) v
  exact ⟨h.os, h.tape, h.output, h.size, fun k hk hne => Below.heap_setCell _ _ _ _ (fun e => hne (by rw [show k = b from e]))⟩
theorem Kp.cell {x y z : Nat} {a b : World} (h : Kp x y z a b) {k i : Nat} (l : k < a.heap.size) (h1 : k ≠ x) (h2 : k ≠ y) (h3 : k ≠ z) : b.cell? ⟨k, i, none⟩ = a.cell? ⟨k, i, none⟩ := World.cell?_of_block (h.block k l h1 h2 h3)

/-! ### tags -/
/-- tags: how many, the next one, the generation, of each space its tag, of each tag its owner -/
structure Tg where
  most : Int
  next : Int
  gen : Int
  T : Int → Option Int
  O : Int → Option Int
/-- the blocks tb, mb, ob hold these tags -/
structure IsTags (w : World) (tb mb ob n : Nat) (S : Tg) : Prop where
  blk : w.heap[tb]? = some (.cells #[.int .i64 S.most, .int .i64 S.next, .int .i64 S.gen, .map (some mb), .map (some ob)] 51 (0, 0))
  tags : MapI w mb n S.T
  owns : MapI w ob n S.O
  ne1 : mb ≠ ob
  ne2 : tb ≠ mb
  ne3 : tb ≠ ob
theorem IsTags.kept {w w' : World} {tb mb ob n : Nat} {S : Tg} (h : IsTags w tb mb ob n S) (hb : ∀ k, k < w.heap.size → (k = tb ∨ k = mb ∨ k = ob) → w'.heap[k]? = w.heap[k]?) : IsTags w' tb mb ob n S := by
  obtain ⟨h1, ⟨c, h2⟩, ⟨d, h3⟩, n1, n2, n3⟩ := h
  exact ⟨(hb tb (blk_lt h1) (by omega)).trans h1, ⟨c, h2.block (hb mb h2.lt (by omega))⟩, ⟨d, h3.block (hb ob h3.lt (by omega))⟩, n1, n2, n3⟩
theorem IsTags.below {w w' : World} {tb mb ob n : Nat} {S : Tg} (h : IsTags w tb mb ob n S) (hb : Below w.heap.size w w') : IsTags w' tb mb ob n S := h.kept (fun k hk _ => hb.block k hk)
theorem IsTags.mono {w : World} {tb mb ob n n' : Nat} {S : Tg} (h : IsTags w tb mb ob n S) (hn : n ≤ n') : IsTags w tb mb ob n' S := by
  obtain ⟨h1, ⟨c, h2⟩, ⟨d, h3⟩, n1, n2, n3⟩ := h
  exact ⟨h1, ⟨c, h2.mono hn⟩, ⟨d, h3.mono hn⟩, n1, n2, n3⟩
theorem IsTags.cell {w : World} {tb mb ob n : Nat} {S : Tg} (h : IsTags w tb mb ob n S) (i : Nat) : w.cell? ⟨tb, i, none⟩ = #[.int .i64 S.most, .int .i64 S.next, .int .i64 S.gen, .map (some mb), .map (some ob)][i]? := Go.Joins.cell_of_block h.blk i
/-- what the call makes alone is turned -/
def Own (w W : World) (tb mb ob n : Nat) (S : Tg) : Prop := IsTags W tb mb ob n S ∧ Below w.heap.size w W ∧ w.heap.size ≤ tb ∧ w.heap.size ≤ mb ∧ w.heap.size ≤ ob
theorem Own.next {w W W' : World} {tb mb ob n n' : Nat} {S S' : Tg} (h : Own w W tb mb ob n S) (hT : IsTags W' tb mb ob n' S') (hg : Kp tb mb ob W W') : Own w W' tb mb ob n' S' := by
  obtain ⟨_, hb, l1, l2, l3⟩ := h
  exact ⟨hT, hb.trans ⟨hg.os, hg.tape, hg.output, hg.size, fun k hk => hg.block k (Nat.lt_of_lt_of_le hk hb.size) (by omega) (by omega) (by omega)⟩, l1, l2, l3⟩
theorem Own.grow {w W W' : World} {tb mb ob n : Nat} {S : Tg} (h : Own w W tb mb ob n S) (hb : Below W.heap.size W W') : Own w W' tb mb ob n S := ⟨h.1.below hb, below_then h.2.1 hb, h.2.2⟩
end Go.Proofs.Ytbdakoijhpobdaa
