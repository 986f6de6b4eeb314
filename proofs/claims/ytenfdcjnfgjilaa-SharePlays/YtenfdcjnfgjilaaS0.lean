/- Grants: one, the table in memory. -/
import Derived.Test.YtenfdcjnfgjilaaChecked
import Derived.WalkKit
import Derived.ProofKit
import Derived.OpenShut
import Derived.Carry
import Derived.Lib.SmallJoins
import Derived.Deep.Light
import Derived.Deep.MidRow
import Derived.Deep.RegionHeld3
import Derived.Deep.DrawnRows
import Derived.Handy
import Derived.Laws.MakeOwn
import Derived.MapKept
import Derived.Laws.Tables
import Derived.ChangeKeysEq
namespace Go.Proofs.Ytenfdcjnfgjilaa
open Go.ChangeShapes Go.WideShapes Go.ChangeAt Go.RowKit Go.Maps
set_option linter.unusedSimpArgs false
set_option linter.unusedVariables false

/-- a grant -/
structure Gr where
  fr : Int
  pg : Int
  dst : Int
  wr : Bool
  tk : Bool
  att : Int
def Gr.enc (n : Gr) : List Value := [.int .i64 n.fr, .int .i64 n.pg, .int .i64 n.dst, .bool n.wr, .bool n.tk, .int .i64 n.att]
abbrev Gr.val (n : Gr) : Value := .agg #[.int .i64 n.fr, .int .i64 n.pg, .int .i64 n.dst, .bool n.wr, .bool n.tk, .int .i64 n.att]
def Gr.zero : Gr := ⟨0, 0, 0, false, false, 0⟩
def Gr.is (n : Gr) : Bool := !(n.fr == n.dst)
/-- block b holds these grants, place by place -/
def IsTab (w : World) (b : Nat) (T : Nat → Gr) : Prop := (∀ i, i < 256 → w.rangeAt b (i * 6) (T i).enc) ∧ w.there b 0 1536 ∧ b < w.heap.size
theorem below_new {w w' : World} (h : Below w.heap.size w w') (o : Obj) : Below w.heap.size w (w'.alloc o) := h.alloc h.size o
theorem below_then {w x y : World} (h1 : Below w.heap.size w x) (h2 : Below x.heap.size x y) : Below w.heap.size w y := h1.trans (Go.Joins.below_le h2 h1.size)
theorem grown_of_below {w w' : World} (h : Below w.heap.size w w') (r : Option Nat) : w.grownBy w' r := ⟨h.os, h.tape, h.output, h.size, fun k hk _ => h.block k hk⟩
theorem grown_setCell1 (w : World) (b o : Nat) (v : Value) : w.grownBy (w.setCell ⟨b, o, none⟩ v) (some b) := by
  have h : Below 0 w (w.setCell ⟨b, o, none⟩ v) := (Below.refl 0 w).setCell (Nat.zero_le _) v
  exact ⟨h.os, h.tape, h.output, h.size, fun k hk hne => Below.heap_setCell _ _ _ _ (fun e => hne (by rw [show k = b from e]))⟩
theorem grown_trans {a b c : World} {r : Option Nat} (h : a.grownBy b r) (k : b.grownBy c r) : a.grownBy c r := ⟨k.os.trans h.os, k.tape.trans h.tape, k.output.trans h.output, Nat.le_trans h.size k.size, fun j hj hne => (k.block j (Nat.lt_of_lt_of_le hj h.size) hne).trans (h.block j hj hne)⟩
theorem grown_refl (a : World) (r : Option Nat) : a.grownBy a r := ⟨rfl, rfl, rfl, Nat.le_refl _, fun _ _ _ => rfl⟩
theorem grown_setCells (b : Nat) : ∀ (vs : List Value) (o : Nat) (w : World), w.grownBy (w.setCells b o vs) (some b)
  | [], _, w => grown_refl w _
  | v :: r, o, w => by
    rw [World.setCells]
    exact grown_trans (grown_setCell1 w b o v) (grown_setCells b r (o + 1) _)
theorem kept_size (w : World) (b o : Nat) (vs : List Value) : w.heap.size ≤ (w.setCells b o vs).heap.size := (grown_setCells b vs o w).size
theorem IsTab.below {w w' : World} {b : Nat} {T : Nat → Gr} (h : IsTab w b T) (hb : Below w.heap.size w w') : IsTab w' b T := by
  obtain ⟨h1, h2, h3⟩ := h
  refine ⟨fun i hi j v hv => ?_, fun j hj => ?_, Nat.lt_of_lt_of_le h3 hb.size⟩
  · rw [hb.cell (p := ⟨b, i * 6 + j, none⟩) h3]; exact h1 i hi j v hv
  · rw [hb.cell (p := ⟨b, 0 + j, none⟩) h3, hb.frozen (p := ⟨b, 0 + j, none⟩) h3]; exact h2 j hj
theorem enc_len (l : Gr) : l.enc.length = 6 := rfl
theorem IsTab.free {w : World} {b : Nat} {T : Nat → Gr} (h : IsTab w b T) (o n : Nat) (ho : o + n ≤ 1536) : w.there b o n := fun j hj => by
  have := h.2.1 (o + j) (by omega)
  rwa [Nat.zero_add] at this
/-- a grant is laid into a place -/
def putT (T : Nat → Gr) (i : Nat) (l : Gr) : Nat → Gr := fun k => if k = i then l else T k
theorem put_same (T : Nat → Gr) (i : Nat) (l : Gr) : putT T i l i = l := if_pos rfl
theorem put_other (T : Nat → Gr) (i : Nat) (l : Gr) (k : Nat) (h : k ≠ i) : putT T i l k = T k := if_neg h
theorem IsTab.put {w : World} {b : Nat} {T : Nat → Gr} (h : IsTab w b T) (i : Nat) (hi : i < 256) (l : Gr) : IsTab (w.setCells b (i * 6) l.enc) b (putT T i l) := by
  obtain ⟨h1, h2, h3⟩ := h
  refine ⟨fun k hk => ?_, World.there_setCells h2 _ _ _, Nat.lt_of_lt_of_le h3 (kept_size w b (i * 6) l.enc)⟩
  by_cases c : k = i
  · subst c; rw [put_same]; exact World.rangeAt_setCells_same w b (k * 6) l.enc (IsTab.free ⟨h1, h2, h3⟩ _ _ (by simp only [enc_len]; omega))
  · rw [put_other _ _ _ _ c]
    refine World.rangeAt_setCells_apart (h1 k hk) b (i * 6) l.enc (Or.inr ?_)
    simp only [enc_len]
    omega
theorem IsTab.congr {w : World} {b : Nat} {T T' : Nat → Gr} (h : IsTab w b T) (e : ∀ i, i < 256 → T i = T' i) : IsTab w b T' := ⟨fun i hi => by rw [← e i hi]; exact h.1 i hi, h.2⟩
theorem IsTab.cell {w : World} {b : Nat} {T : Nat → Gr} (h : IsTab w b T) (i : Nat) (hi : i < 256) (c : Nat) (v : Value) (hv : (T i).enc[c]? = some v) (o : Nat) (ho : o = i * 6 + c) : w.cell? ⟨b, o, none⟩ = some v := by rw [ho]; exact h.1 i hi c v hv
/-- one cell of a grant -/
theorem IsTab.one {w : World} {b : Nat} {T : Nat → Gr} (h : IsTab w b T) (i : Nat) (hi : i < 256) (c : Nat) (v : Value) (l : Gr) (hl : l.enc = (T i).enc.set c v) (hc : c < 6) (o : Nat) (ho : o = i * 6 + c) : IsTab (w.setCell ⟨b, o, none⟩ v) b (putT T i l) := by
  subst ho
  obtain ⟨h1, h2, h3⟩ := h
  have e : w.setCell ⟨b, i * 6 + c, none⟩ v = w.setCells b (i * 6 + c) [v] := by rw [World.setCells, World.setCells]
  rw [e]
  refine ⟨fun k hk => ?_, World.there_setCells h2 _ _ _, Nat.lt_of_lt_of_le h3 (kept_size w b _ _)⟩
  by_cases d : k = i
  · subst d; rw [put_same, hl]
    intro j x hj
    have hj5 : j < 6 := by have := (List.getElem?_eq_some_iff.1 hj).1; simpa [enc_len] using this
    by_cases f : j = c
    · subst f
      have hx : x = v := by
        rw [List.getElem?_set_self (by rw [enc_len]; exact hj5)] at hj
        exact (Option.some.inj hj).symm
      subst hx
      exact World.rangeAt_setCells_same w b (k * 6 + j) [x] (IsTab.free ⟨h1, h2, h3⟩ _ _ (by simp only [List.length_cons, List.length_nil]; omega)) 0 x rfl
    · rw [List.getElem?_set_ne (fun q => f q.symm)] at hj
      rw [World.cell?_setCells_out b [v] _ w _ (fun _ => by simp only [List.length_cons, List.length_nil]; omega)]
      exact h1 k hk j x hj
  · rw [put_other _ _ _ _ d]
    refine World.rangeAt_setCells_apart (h1 k hk) b _ [v] (Or.inr ?_)
    simp only [enc_len, List.length_cons, List.length_nil]
    omega
theorem store_pat {P : Program} {ops : Array Oper} {rest : List Oper} {ty t : TypeId} {x y : Operand} {pos : String} {af : Array Edge} {a : Act} {w : World} {Q : Exit → Act → World → Prop} (b o : Nat) (cells : Array Value) (hx : a.eval x = .pointer (some ⟨b, o, none⟩)) (hy : a.eval y = .agg cells)
    (ht : w.there b o cells.size) (hi : (P.info? ty).map (·.size) = some cells.size) (h1 : cells.all (·.oneCell') = true)
    (h : wpList P ops Q rest a (w.setCells b o cells.toList)) : wpList P ops Q ({ dst := none, op := .store ty x y, type := t, pos := pos, after := af, guard := none } :: rest) a w :=
  wpList_store_mid rfl ty x y rfl b o cells hx hy ht hi h1 h
theorem load_pat {P : Program} {ops : Array Oper} {rest : List Oper} {ty t : TypeId} {x : Operand} {q : Tmp} {pos : String} {af : Array Edge} {a : Act} {w : World} {Q : Exit → Act → World → Prop} (b o : Nat) (cs : List Value) (d : TypeDesc) (hx : a.eval x = .pointer (some ⟨b, o, none⟩)) (hc : w.rangeAt b o cs)
    (hu : P.underlying ty = some d) (hd : d.isRow = true) (hi : (P.info? ty).map (·.size) = some cs.length)
    (h : wpList P ops Q rest (a.put (some q) (.agg cs.toArray)) w) : wpList P ops Q ({ dst := some q, op := .load ty x, type := t, pos := pos, after := af, guard := none } :: rest) a w :=
  wpList_load_mid rfl ty x rfl b o hx cs d hc hu hd hi h
theorem own1 (w : World) (o : Obj) : (w.alloc o).heap[w.heap.size]? = some o := (MapKept.heap_alloc w o).1
theorem there_block {w : World} {b : Nat} {C : Array Value} {t : TypeId} (h : w.heap[b]? = some (.cells C t (0, 0))) : w.there b 0 C.size := fun j hj => by
  rw [Nat.zero_add]
  exact ⟨by rw [Go.Joins.cell_of_block h j, Array.getElem?_eq_getElem hj]; rfl, Go.Joins.unfrozen_of_block h j⟩
theorem cell_grown {w w' : World} {b k i : Nat} {v : Value} (hg : w.grownBy w' (some b)) (l : k < w.heap.size) (ne : k ≠ b) (h : w.cell? ⟨k, i, none⟩ = some v) : w'.cell? ⟨k, i, none⟩ = some v :=
  (World.cell?_of_block (w := w) (a := ⟨k, i, none⟩) (hg.block k l (fun e => ne (Option.some.inj e)))).trans h
theorem grown_alloc (w : World) (o : Obj) (r : Option Nat) : w.grownBy (w.alloc o) r := grown_of_below (Go.Joins.below_alloc1 w o) r
/-- a tree of its own, made behind w -/
def Own (w W : World) (b : Nat) (T : Nat → Gr) : Prop := IsTab W b T ∧ Below w.heap.size w W ∧ w.heap.size ≤ b
theorem Own.next {w W W' : World} {b : Nat} {T T' : Nat → Gr} (h : Own w W b T) (hT : IsTab W' b T') (hg : W.grownBy W' (some b)) : Own w W' b T' :=
  ⟨hT, h.2.1.trans ⟨hg.os, hg.tape, hg.output, hg.size, fun k hk => hg.block k (Nat.lt_of_lt_of_le hk h.2.1.size) (fun e => by have := Option.some.inj e; have := h.2.2; omega)⟩, h.2.2⟩
theorem Own.grow {w W W' : World} {b : Nat} {T : Nat → Gr} (h : Own w W b T) (hb : Below W.heap.size W W') : Own w W' b T := ⟨h.1.below hb, below_then h.2.1 hb, h.2.2⟩
theorem grant_info : (Try.prog.info? 24).map (·.size) = some 6 := by kernel_rfl
theorem below_drew {n : Nat} {w W : World} (h : Below n w W) : Below n w W.drew := ⟨h.os, h.tape, h.output, h.size, h.block⟩
theorem IsTab.unfrozen {w : World} {b : Nat} {T : Nat → Gr} (h : IsTab w b T) (o : Nat) (ho : o < 1536) : w.frozen? ⟨b, o, none⟩ = false := by
  have := (h.2.1 o ho).2
  rwa [Nat.zero_add] at this
theorem IsTab.drew {w : World} {b : Nat} {T : Nat → Gr} (h : IsTab w b T) : IsTab w.drew b T := h
theorem grown_drew {w W : World} {r : Option Nat} (h : w.grownBy W r) : w.grownBy W.drew r := ⟨h.os, h.tape, h.output, h.size, h.block⟩
theorem grown_new {w W : World} {r : Option Nat} (h : w.grownBy W r) (o : Obj) : w.grownBy (W.alloc o) r := grown_trans h (grown_alloc _ _ _)
def getG (T : Nat → Gr) (i : Int) : Gr := if 0 ≤ i ∧ i < 256 then T i.toNat else Gr.zero
theorem is_in {T : Nat → Gr} {i : Int} (h : (getG T i).is = true) : ∃ k : Nat, i = k ∧ k < 256 ∧ getG T i = T k := by
  unfold getG at h ⊢
  by_cases c : 0 ≤ i ∧ i < 256
  · exact ⟨i.toNat, by omega, by omega, by rw [if_pos c]⟩
  · rw [if_neg c] at h; exact absurd h (by decide)
theorem IsTab.cell_at {w : World} {b : Nat} {T : Nat → Gr} (h : IsTab w b T) (k : Nat) (hk : k < 256) : w.rangeAt b (k * 6) (T k).enc := h.1 k hk
/-- the cells of n grants in a row -/
def flatT (T : Nat → Gr) : Nat → List Value
  | 0 => []
  | n + 1 => flatT T n ++ (T n).enc
theorem flat_len (T : Nat → Gr) : ∀ n, (flatT T n).length = n * 6
  | 0 => rfl
  | n + 1 => by rw [flatT, List.length_append, flat_len T n, enc_len]; omega
theorem flat_get (T : Nat → Gr) : ∀ n q r, q < n → r < 6 → (flatT T n)[q * 6 + r]? = (T q).enc[r]?
  | 0, q, r, h, _ => absurd h (Nat.not_lt_zero _)
  | n + 1, q, r, h, hr => by
    rw [flatT]
    by_cases c : q = n
    · subst c
      rw [List.getElem?_append_right (by rw [flat_len]; omega), flat_len]
      congr 1
      omega
    · rw [List.getElem?_append_left (by rw [flat_len]; omega)]
      exact flat_get T n q r (by omega) hr
theorem flat_part (T : Nat → Gr) : ∀ n q, q < n → ((flatT T n).drop (q * 6)).take 6 = (T q).enc
  | 0, q, h => absurd h (Nat.not_lt_zero _)
  | n + 1, q, h => by
    rw [flatT]
    by_cases c : q = n
    · subst c
      rw [List.drop_append, List.drop_of_length_le (by rw [flat_len]; omega), List.nil_append, flat_len, Nat.sub_self, List.drop_zero, List.take_of_length_le (by rw [enc_len]; omega)]
    · rw [List.drop_append_of_le_length (by rw [flat_len]; omega), List.take_append_of_le_length (by rw [List.length_drop, flat_len]; omega)]
      exact flat_part T n q (by omega)
def zT : Nat → Gr := fun _ => Gr.zero
set_option maxRecDepth 20000 in
theorem zeroT : ∃ Zs : Array Value, (∀ W : World, (zeroValue 27).run Try.prog W = .ok (.agg Zs) W) ∧ Zs.size = 1536 ∧ ∀ q r, q < 256 → r < 6 → Zs[q * 6 + r]? = Gr.zero.enc[r]? :=
  ⟨(flatT zT 256).toArray, fun W => by kernel_rfl, by rw [List.size_toArray, flat_len], fun q r h1 h2 => by rw [List.getElem?_toArray]; exact flat_get zT 256 q r h1 h2⟩
theorem IsTab.made (w : World) (Zs : Array Value) (hs : Zs.size = 1536) (hz : ∀ q r, q < 256 → r < 6 → Zs[q * 6 + r]? = Gr.zero.enc[r]?) : IsTab (w.alloc (.cells Zs 27)) w.heap.size zT := by
  refine ⟨fun i hi j v hv => ?_, ?_, by simp⟩
  · have hj : j < 6 := (List.getElem?_eq_some_iff.1 hv).1
    exact (Go.Joins.cell_of_block (own1 w _) _).trans ((hz i j hi hj).trans hv)
  · have := there_block (own1 w (.cells Zs 27))
    rwa [hs] at this
theorem flat_range {w : World} {b : Nat} {T : Nat → Gr} (h : IsTab w b T) : w.rangeAt b 0 (flatT T 256) := by
  intro j v hv
  have hj : j < 1536 := by have := (List.getElem?_eq_some_iff.1 hv).1; rwa [flat_len] at this
  have hd : j = j / 6 * 6 + j % 6 := by omega
  have := h.1 (j / 6) (by omega) (j % 6) v
  rw [Nat.zero_add]
  rw [← hd] at this
  refine this ?_
  rw [← hv, ← flat_get T 256 (j / 6) (j % 6) (by omega) (by omega), ← hd]
theorem all_info : (Try.prog.info? 25).map (·.size) = some 1536 := by kernel_rfl
theorem info6 : ∃ i, Try.prog.info? 24 = some i := by
  have := grant_info
  cases h : Try.prog.info? 24 with
  | none => rw [h] at this; cases this
  | some i => exact ⟨i, rfl⟩
theorem cells6 : Try.prog.cellsOf 24 = 6 := by kernel_rfl
theorem ixk (T : Nat → Gr) (k : Nat) (hk : k < 256) (W : World) : (Instr.index 25 (.agg (flatT T 256).toArray) (.int .i64 k)).run Try.prog W = .ok (T k).val W := by
  obtain ⟨i, hi⟩ := info6
  have h1 : (sizeOf 24).run Try.prog W = .ok 6 W := by rw [run_sizeOf W hi, cells6]
  have h2 : (underlying 25).run Try.prog W = .ok (.array 256 24) W := run_underlying Try.underlying25 W
  have h3 : (isAgg 24).run Try.prog W = .ok true W := by kernel_rfl
  have h4 : (0 : Int) ≤ (k : Int) ∧ (k : Int) < ((256 : Nat) : Int) := by omega
  unfold Instr.index part
  simp only [asIntOf, Sem.run_bind, Sem.run_pure, Result.andThen_ok, h2, h1, h3, h4, and_self, if_true, Int.toNat_natCast]
  congr 1
  simp only [Value.agg.injEq]
  have := flat_part T 256 k hk
  rw [List.extract_toArray, List.extract_eq_take_drop]
  rw [show k * 6 + 6 - k * 6 = 6 by omega, this]
  rfl
end Go.Proofs.Ytenfdcjnfgjilaa
