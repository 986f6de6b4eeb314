/- Containers: a node, the tree in memory. -/
import Derived.Test.YtpfcpmhpekidkaaChecked
import Derived.WalkKit
import Derived.ProofKit
import Derived.OpenShut
import Derived.Carry
import Derived.Lib.SmallJoins
import Derived.Deep.Light
import Derived.Deep.MidRow
import Derived.Deep.RegionHeld3
import Derived.Deep.DrawnRows
import Derived.Handy
import Derived.Laws.MakeOwn
import Derived.MapKept
import Derived.Laws.Tables
namespace Go.Proofs.Ytpfcpmhpekidkaa.Qu
open Go.ChangeShapes Go.WideShapes Go.ChangeAt Go.RowKit Go.Maps
set_option linter.unusedSimpArgs false
set_option linter.unusedVariables false

/-- a container -/
structure Nd where
  par : Int
  quota : Int
  used : Int
  lent : Int
  live : Bool
def Nd.enc (n : Nd) : List Value := [.int .i64 n.par, .int .i64 n.quota, .int .i64 n.used, .int .i64 n.lent, .bool n.live]
abbrev Nd.val (n : Nd) : Value := .agg #[.int .i64 n.par, .int .i64 n.quota, .int .i64 n.used, .int .i64 n.lent, .bool n.live]
def Nd.zero : Nd := ⟨0, 0, 0, 0, false⟩
def Nd.room (n : Nd) : Int := n.quota - n.used - n.lent
/-- block b holds these containers, place by place -/
def IsTree (w : World) (b : Nat) (T : Nat → Nd) : Prop := (∀ i, i < 64 → w.rangeAt b (i * 5) (T i).enc) ∧ w.there b 0 320 ∧ b < w.heap.size
theorem below_new {w w' : World} (h : Below w.heap.size w w') (o : Obj) : Below w.heap.size w (w'.alloc o) := h.alloc h.size o
theorem below_then {w x y : World} (h1 : Below w.heap.size w x) (h2 : Below x.heap.size x y) : Below w.heap.size w y := h1.trans (Go.Joins.below_le h2 h1.size)
theorem grown_of_below {w w' : World} (h : Below w.heap.size w w') (r : Option Nat) : w.grownBy w' r := ⟨h.os, h.tape, h.output, h.size, fun k hk _ => h.block k hk⟩
theorem grown_setCell1 (w : World) (b o : Nat) (v : Value) : w.grownBy (w.setCell ⟨b, o, none⟩ v) (some b) := by
  have h : Below 0 w (w.setCell ⟨b, o, none⟩ v) := (Below.refl 0 w).setCell (Nat.zero_le _) v
  exact ⟨h.os, h.tape, h.output, h.size, fun k hk hne => Below.heap_setCell _ _ _ _ (fun e => hne (by rw [show k = b from e]))⟩
theorem grown_trans {a b c : World} {r : Option Nat} (h : a.grownBy b r) (k : b.grownBy c r) : a.grownBy c r := ⟨k.os.trans h.os, k.tape.trans h.tape, k.output.trans h.output, Nat.le_trans h.size k.size, fun j hj hne => (k.block j (Nat.lt_of_lt_of_le hj h.size) hne).trans (h.block j hj hne)⟩
theorem grown_refl (a : World) (r : Option Nat) : a.grownBy a r := ⟨rfl, rfl, rfl, Nat.le_refl _, fun _ _ _ => rfl⟩
theorem grown_setCells (b : Nat) : ∀ (vs : List Value) (o : Nat) (w : World), w.grownBy (w.setCells b o vs) (some b)
  | [], _, w => grown_refl w _
  | v :: r, o, w => by
    rw [World.setCells]
    exact grown_trans (grown_setCell1 w b o v) (grown_setCells b r (o + 1) _)
theorem kept_size (w : World) (b o : Nat) (vs : List Value) : w.heap.size ≤ (w.setCells b o vs).heap.size := (grown_setCells b vs o w).size
theorem IsTree.below {w w' : World} {b : Nat} {T : Nat → Nd} (h : IsTree w b T) (hb : Below w.heap.size w w') : IsTree w' b T := by
  obtain ⟨h1, h2, h3⟩ := h
  refine ⟨fun i hi j v hv => ?_, fun j hj => ?_, Nat.lt_of_lt_of_le h3 hb.size⟩
  · rw [hb.cell (p := ⟨b, i * 5 + j, none⟩) h3]; exact h1 i hi j v hv
  · rw [hb.cell (p := ⟨b, 0 + j, none⟩) h3, hb.frozen (p := ⟨b, 0 + j, none⟩) h3]; exact h2 j hj
theorem enc_len (l : Nd) : l.enc.length = 5 := rfl
theorem IsTree.free {w : World} {b : Nat} {T : Nat → Nd} (h : IsTree w b T) (o n : Nat) (ho : o + n ≤ 320) : w.there b o n := fun j hj => by
  have := h.2.1 (o + j) (by omega)
  rwa [Nat.zero_add] at this
/-- a container is laid into a place -/
def putT (T : Nat → Nd) (i : Nat) (l : Nd) : Nat → Nd := fun k => if k = i then l else T k
theorem put_same (T : Nat → Nd) (i : Nat) (l : Nd) : putT T i l i = l := if_pos rfl
theorem put_other (T : Nat → Nd) (i : Nat) (l : Nd) (k : Nat) (h : k ≠ i) : putT T i l k = T k := if_neg h
theorem IsTree.put {w : World} {b : Nat} {T : Nat → Nd} (h : IsTree w b T) (i : Nat) (hi : i < 64) (l : Nd) : IsTree (w.setCells b (i * 5) l.enc) b (putT T i l) := by
  obtain ⟨h1, h2, h3⟩ := h
  refine ⟨fun k hk => ?_, World.there_setCells h2 _ _ _, Nat.lt_of_lt_of_le h3 (kept_size w b (i * 5) l.enc)⟩
  by_cases c : k = i
  · subst c; rw [put_same]; exact World.rangeAt_setCells_same w b (k * 5) l.enc (IsTree.free ⟨h1, h2, h3⟩ _ _ (by simp only [enc_len]; omega))
  · rw [put_other _ _ _ _ c]
    refine World.rangeAt_setCells_apart (h1 k hk) b (i * 5) l.enc (Or.inr ?_)
    simp only [enc_len]
    omega
theorem IsTree.congr {w : World} {b : Nat} {T T' : Nat → Nd} (h : IsTree w b T) (e : ∀ i, i < 64 → T i = T' i) : IsTree w b T' := ⟨fun i hi => by rw [← e i hi]; exact h.1 i hi, h.2⟩
theorem IsTree.cell {w : World} {b : Nat} {T : Nat → Nd} (h : IsTree w b T) (i : Nat) (hi : i < 64) (c : Nat) (v : Value) (hv : (T i).enc[c]? = some v) (o : Nat) (ho : o = i * 5 + c) : w.cell? ⟨b, o, none⟩ = some v := by rw [ho]; exact h.1 i hi c v hv
/-- one cell of a container -/
theorem IsTree.one {w : World} {b : Nat} {T : Nat → Nd} (h : IsTree w b T) (i : Nat) (hi : i < 64) (c : Nat) (v : Value) (l : Nd) (hl : l.enc = (T i).enc.set c v) (hc : c < 5) (o : Nat) (ho : o = i * 5 + c) : IsTree (w.setCell ⟨b, o, none⟩ v) b (putT T i l) := by
  subst ho
  obtain ⟨h1, h2, h3⟩ := h
  have e : w.setCell ⟨b, i * 5 + c, none⟩ v = w.setCells b (i * 5 + c) [v] := by rw [World.setCells, World.setCells]
  rw [e]
  refine ⟨fun k hk => ?_, World.there_setCells h2 _ _ _, Nat.lt_of_lt_of_le h3 (kept_size w b _ _)⟩
  by_cases d : k = i
  · subst d; rw [put_same, hl]
    intro j x hj
    have hj5 : j < 5 := by have := (List.getElem?_eq_some_iff.1 hj).1; simpa [enc_len] using this
    by_cases f : j = c
    · subst f
      have hx : x = v := by
        rw [List.getElem?_set_self (by rw [enc_len]; exact hj5)] at hj
        exact (Option.some.inj hj).symm
      subst hx
      exact World.rangeAt_setCells_same w b (k * 5 + j) [x] (IsTree.free ⟨h1, h2, h3⟩ _ _ (by simp only [List.length_cons, List.length_nil]; omega)) 0 x rfl
    · rw [List.getElem?_set_ne (fun q => f q.symm)] at hj
      rw [World.cell?_setCells_out b [v] _ w _ (fun _ => by simp only [List.length_cons, List.length_nil]; omega)]
      exact h1 k hk j x hj
  · rw [put_other _ _ _ _ d]
    refine World.rangeAt_setCells_apart (h1 k hk) b _ [v] (Or.inr ?_)
    simp only [enc_len, List.length_cons, List.length_nil]
    omega
theorem store_pat {P : Program} {ops : Array Oper} {rest : List Oper} {ty t : TypeId} {x y : Operand} {pos : String} {af : Array Edge} {a : Act} {w : World} {Q : Exit → Act → World → Prop} (b o : Nat) (cells : Array Value) (hx : a.eval x = .pointer (some ⟨b, o, none⟩)) (hy : a.eval y = .agg cells)
    (ht : w.there b o cells.size) (hi : (P.info? ty).map (·.size) = some cells.size) (h1 : cells.all (·.oneCell') = true)
    (h : wpList P ops Q rest a (w.setCells b o cells.toList)) : wpList P ops Q ({ dst := none, op := .store ty x y, type := t, pos := pos, after := af, guard := none } :: rest) a w :=
  wpList_store_mid rfl ty x y rfl b o cells hx hy ht hi h1 h
theorem load_pat {P : Program} {ops : Array Oper} {rest : List Oper} {ty t : TypeId} {x : Operand} {q : Tmp} {pos : String} {af : Array Edge} {a : Act} {w : World} {Q : Exit → Act → World → Prop} (b o : Nat) (cs : List Value) (d : TypeDesc) (hx : a.eval x = .pointer (some ⟨b, o, none⟩)) (hc : w.rangeAt b o cs)
    (hu : P.underlying ty = some d) (hd : d.isRow = true) (hi : (P.info? ty).map (·.size) = some cs.length)
    (h : wpList P ops Q rest (a.put (some q) (.agg cs.toArray)) w) : wpList P ops Q ({ dst := some q, op := .load ty x, type := t, pos := pos, after := af, guard := none } :: rest) a w :=
  wpList_load_mid rfl ty x rfl b o hx cs d hc hu hd hi h
theorem own1 (w : World) (o : Obj) : (w.alloc o).heap[w.heap.size]? = some o := (MapKept.heap_alloc w o).1
theorem there_block {w : World} {b : Nat} {C : Array Value} {t : TypeId} (h : w.heap[b]? = some (.cells C t (0, 0))) : w.there b 0 C.size := fun j hj => by
  rw [Nat.zero_add]
  exact ⟨by rw [Go.Joins.cell_of_block h j, Array.getElem?_eq_getElem hj]; rfl, Go.Joins.unfrozen_of_block h j⟩
theorem cell_grown {w w' : World} {b k i : Nat} {v : Value} (hg : w.grownBy w' (some b)) (l : k < w.heap.size) (ne : k ≠ b) (h : w.cell? ⟨k, i, none⟩ = some v) : w'.cell? ⟨k, i, none⟩ = some v :=
  (World.cell?_of_block (w := w) (a := ⟨k, i, none⟩) (hg.block k l (fun e => ne (Option.some.inj e)))).trans h
theorem grown_alloc (w : World) (o : Obj) (r : Option Nat) : w.grownBy (w.alloc o) r := grown_of_below (Go.Joins.below_alloc1 w o) r
/-- a tree of its own, made behind w -/
def Own (w W : World) (b : Nat) (T : Nat → Nd) : Prop := IsTree W b T ∧ Below w.heap.size w W ∧ w.heap.size ≤ b
theorem Own.next {w W W' : World} {b : Nat} {T T' : Nat → Nd} (h : Own w W b T) (hT : IsTree W' b T') (hg : W.grownBy W' (some b)) : Own w W' b T' :=
  ⟨hT, h.2.1.trans ⟨hg.os, hg.tape, hg.output, hg.size, fun k hk => hg.block k (Nat.lt_of_lt_of_le hk h.2.1.size) (fun e => by have := Option.some.inj e; have := h.2.2; omega)⟩, h.2.2⟩
theorem Own.grow {w W W' : World} {b : Nat} {T : Nat → Nd} (h : Own w W b T) (hb : Below W.heap.size W W') : Own w W' b T := ⟨h.1.below hb, below_then h.2.1 hb, h.2.2⟩
theorem node_info : (Try.prog.info? 71).map (·.size) = some 5 := by kernel_rfl
end Go.Proofs.Ytpfcpmhpekidkaa.Qu
