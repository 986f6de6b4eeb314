/- Regions: a region, a list of them in memory. -/
import Derived.Test.YtngaodfajihmmaaChecked
import Derived.WalkKit
import Derived.ProofKit
import Derived.OpenShut
import Derived.Carry
import Derived.Lib.SmallJoins
import Derived.Deep.Light
import Derived.Deep.MidRow
import Derived.Deep.RegionHeld3
import Derived.Deep.DrawnRows
import Derived.Handy
import Derived.Laws.MakeOwn
import Derived.MapKept
import Derived.Laws.Tables
import Derived.Maps.AppendAt
namespace Go.Proofs.Ytngaodfajihmmaa
open Go.ChangeShapes Go.WideShapes Go.ChangeAt Go.RowKit Go.Maps
set_option linter.unusedSimpArgs false
set_option linter.unusedVariables false

/-- a region -/
structure Rg where
  fr : Int
  to : Int
  w : Bool
  u : Bool
  x : Bool
  kd : Int
def Rg.enc (r : Rg) : List Value := [.int .i64 r.fr, .int .i64 r.to, .bool r.w, .bool r.u, .bool r.x, .int .i64 r.kd]
abbrev Rg.val (r : Rg) : Value := .agg #[.int .i64 r.fr, .int .i64 r.to, .bool r.w, .bool r.u, .bool r.x, .int .i64 r.kd]
def Rg.zero : Rg := ⟨0, 0, false, false, false, 0⟩
abbrev rgV (f t : Int) : Value := .agg #[.int .i64 f, .int .i64 t]
abbrev pmV (w u x : Bool) : Value := .agg #[.bool w, .bool u, .bool x]
theorem below_new {w w' : World} (h : Below w.heap.size w w') (o : Obj) : Below w.heap.size w (w'.alloc o) := h.alloc h.size o
theorem below_then {w x y : World} (h1 : Below w.heap.size w x) (h2 : Below x.heap.size x y) : Below w.heap.size w y := h1.trans (Go.Joins.below_le h2 h1.size)
theorem grown_of_below {w w' : World} (h : Below w.heap.size w w') (r : Option Nat) : w.grownBy w' r := ⟨h.os, h.tape, h.output, h.size, fun k hk _ => h.block k hk⟩
theorem grown_setCell1 (w : World) (b o : Nat) (v : Value) : w.grownBy (w.setCell ⟨b, o, none⟩ v) (some b) := by
  have h : Below 0 w (w.setCell ⟨b, o, none⟩ v) := (Below.refl 0 w).setCell (Nat.zero_le _) v
  exact ⟨h.os, h.tape, h.output, h.size, fun k hk hne => Below.heap_setCell _ _ _ _ (fun e => hne (by rw [show k = b from e]))⟩
theorem grown_trans {a b c : World} {r : Option Nat} (h : a.grownBy b r) (k : b.grownBy c r) : a.grownBy c r := ⟨k.os.trans h.os, k.tape.trans h.tape, k.output.trans h.output, Nat.le_trans h.size k.size, fun j hj hne => (k.block j (Nat.lt_of_lt_of_le hj h.size) hne).trans (h.block j hj hne)⟩
theorem grown_refl (a : World) (r : Option Nat) : a.grownBy a r := ⟨rfl, rfl, rfl, Nat.le_refl _, fun _ _ _ => rfl⟩
theorem grown_setCells (b : Nat) : ∀ (vs : List Value) (o : Nat) (w : World), w.grownBy (w.setCells b o vs) (some b)
  | [], _, w => grown_refl w _
  | v :: r, o, w => by
    rw [World.setCells]
    exact grown_trans (grown_setCell1 w b o v) (grown_setCells b r (o + 1) _)
theorem kept_size (w : World) (b o : Nat) (vs : List Value) : w.heap.size ≤ (w.setCells b o vs).heap.size := (grown_setCells b vs o w).size
theorem store_pat {P : Program} {ops : Array Oper} {rest : List Oper} {ty t : TypeId} {x y : Operand} {pos : String} {af : Array Edge} {a : Act} {w : World} {Q : Exit → Act → World → Prop} (b o : Nat) (cells : Array Value) (hx : a.eval x = .pointer (some ⟨b, o, none⟩)) (hy : a.eval y = .agg cells)
    (ht : w.there b o cells.size) (hi : (P.info? ty).map (·.size) = some cells.size) (h1 : cells.all (·.oneCell') = true)
    (h : wpList P ops Q rest a (w.setCells b o cells.toList)) : wpList P ops Q ({ dst := none, op := .store ty x y, type := t, pos := pos, after := af, guard := none } :: rest) a w :=
  wpList_store_mid rfl ty x y rfl b o cells hx hy ht hi h1 h
theorem load_pat {P : Program} {ops : Array Oper} {rest : List Oper} {ty t : TypeId} {x : Operand} {q : Tmp} {pos : String} {af : Array Edge} {a : Act} {w : World} {Q : Exit → Act → World → Prop} (b o : Nat) (cs : List Value) (d : TypeDesc) (hx : a.eval x = .pointer (some ⟨b, o, none⟩)) (hc : w.rangeAt b o cs)
    (hu : P.underlying ty = some d) (hd : d.isRow = true) (hi : (P.info? ty).map (·.size) = some cs.length)
    (h : wpList P ops Q rest (a.put (some q) (.agg cs.toArray)) w) : wpList P ops Q ({ dst := some q, op := .load ty x, type := t, pos := pos, after := af, guard := none } :: rest) a w :=
  wpList_load_mid rfl ty x rfl b o hx cs d hc hu hd hi h
theorem own1 (w : World) (o : Obj) : (w.alloc o).heap[w.heap.size]? = some o := (MapKept.heap_alloc w o).1
theorem there_block {w : World} {b : Nat} {C : Array Value} {t : TypeId} (h : w.heap[b]? = some (.cells C t (0, 0))) : w.there b 0 C.size := fun j hj => by
  rw [Nat.zero_add]
  exact ⟨by rw [Go.Joins.cell_of_block h j, Array.getElem?_eq_getElem hj]; rfl, Go.Joins.unfrozen_of_block h j⟩
theorem cell_grown {w w' : World} {b k i : Nat} {v : Value} (hg : w.grownBy w' (some b)) (l : k < w.heap.size) (ne : k ≠ b) (h : w.cell? ⟨k, i, none⟩ = some v) : w'.cell? ⟨k, i, none⟩ = some v :=
  (World.cell?_of_block (w := w) (a := ⟨k, i, none⟩) (hg.block k l (fun e => ne (Option.some.inj e)))).trans h
theorem grown_alloc (w : World) (o : Obj) (r : Option Nat) : w.grownBy (w.alloc o) r := grown_of_below (Go.Joins.below_alloc1 w o) r
theorem info5 {P : Program} {e : TypeId} {z : Value} {s b : Nat} (h : (P.info? e).map (fun i => (i.zero, i.size, i.bytes)) = some (some z, s, b)) : ∃ i : TypeInfo, P.info? e = some i ∧ i.zero = some z ∧ i.size = s ∧ i.bytes = b := by
  cases hq : P.info? e with
  | none => simp [hq] at h
  | some i =>
    simp [hq] at h
    exact ⟨i, rfl, h.1, h.2.1, h.2.2⟩
theorem own_keep {w w' : World} {base n e s : Nat} {v : Value} {xs : List Value} (h : w.ownsRow base e s v n xs) (hb : Below w.heap.size w w') : w'.ownsRow base e s v n xs := by
  obtain ⟨h1, h2⟩ := h
  refine ⟨h1, ?_⟩
  rcases h2 with h2 | ⟨g', cap', cur, e1, e2, e3, e4⟩
  · exact Or.inl h2
  · have hg' : g' < w.heap.size := (Array.getElem?_eq_some_iff.1 e3).1
    exact Or.inr ⟨g', cap', cur, e1, e2, (hb.block g' hg').trans e3, e4⟩
theorem own_base {w : World} {base n e s : Nat} {v : Value} {xs : List Value} (h : w.ownsRow base e s v n xs) : ∀ j, v.ownBlock = some j → base ≤ j := by
  obtain ⟨h1, h2⟩ := h
  rcases h2 with h2 | ⟨g', cap', cur, e1, e2, e3, e4⟩
  · rw [h2.1]; intro j hj; cases hj
  · rw [e1]; intro j hj; cases hj; exact e2
theorem own2b (w : World) (o p : Obj) : ((w.alloc o).alloc p).heap[w.heap.size + 1]? = some p := by
  have := own1 (w.alloc o) p
  rw [World.size_alloc] at this; exact this
theorem news_cells (u : World) (o : Obj) (C : Array Value) (t : TypeId) : ∀ j x, C.toList[j]? = some x → ((u.alloc o).alloc (.cells C t)).cell? ((⟨u.heap.size + 1, 0, none⟩ : Addr).add j) = some x := by
  intro j x hx
  rw [Addr.add_mid, Nat.zero_add]
  exact (Go.Joins.cell_of_block (own2b u o (.cells C t)) j).trans (by simpa using hx)
theorem below_grown {w U a0 : World} {v : Value} {n e s : Nat} {xs : List Value} (B : Below w.heap.size w U) (O : U.ownsRow w.heap.size e s v n xs) (hg : U.grownBy a0 v.ownBlock) : Below w.heap.size w a0 :=
  B.grown hg B.size (fun j ej => own_base O j ej)
theorem renc_len (r : Rg) : r.enc.length = 6 := rfl
/-- a list of regions that lies at base or above -/
def IsL (w : World) (base : Nat) (p : Option Addr) (L : List Rg) : Prop := ∀ i, i < L.length → ∃ g, p = some ⟨g, 0, none⟩ ∧ base ≤ g ∧ g < w.heap.size ∧ ∀ j x, (L.getD i Rg.zero).enc[j]? = some x → w.cell? ⟨g, i * 6 + j, none⟩ = some x
theorem IsL.below {w w' : World} {base : Nat} {p : Option Addr} {L : List Rg} (h : IsL w base p L) (hb : Below w.heap.size w w') : IsL w' base p L := fun i hi => by
  obtain ⟨g, e, l1, l2, c⟩ := h i hi
  exact ⟨g, e, l1, Nat.lt_of_lt_of_le l2 hb.size, fun j x hx => (hb.cell (p := ⟨g, i * 6 + j, none⟩) l2).trans (c j x hx)⟩
/-- lists that lie below n stay -/
def LowL (w : World) (n : Nat) (p : Option Addr) (L : List Rg) : Prop := ∀ i, i < L.length → ∃ g, p = some ⟨g, 0, none⟩ ∧ g < n ∧ ∀ j x, (L.getD i Rg.zero).enc[j]? = some x → w.cell? ⟨g, i * 6 + j, none⟩ = some x
theorem LowL.low {w w' : World} {n : Nat} {p : Option Addr} {L : List Rg} (h : LowL w n p L) (hb : Below n w w') : LowL w' n p L := fun i hi => by
  obtain ⟨g, e, l2, c⟩ := h i hi
  exact ⟨g, e, l2, fun j x hx => (hb.cell (p := ⟨g, i * 6 + j, none⟩) l2).trans (c j x hx)⟩
theorem LowL.weak {w : World} {n m : Nat} {p : Option Addr} {L : List Rg} (h : LowL w n p L) (hb : n ≤ m) : LowL w m p L := fun i hi => by
  obtain ⟨g, e, l2, c⟩ := h i hi
  exact ⟨g, e, by omega, c⟩
theorem flatR_enc : ∀ (L : List Rg) (i j : Nat), i < L.length → j < 6 → (L.flatMap Rg.enc)[i * 6 + j]? = (L.getD i Rg.zero).enc[j]?
  | [], i, j, h, _ => absurd h (Nat.not_lt_zero _)
  | l :: r, 0, j, h, hj => by
    rw [List.flatMap_cons, List.getElem?_append_left (by rw [renc_len]; omega)]
    simp [List.getD]
  | l :: r, i + 1, j, h, hj => by
    rw [List.flatMap_cons, List.getElem?_append_right (by rw [renc_len]; omega), renc_len, show (i + 1) * 6 + j - 6 = i * 6 + j by omega, flatR_enc r i j (by simpa using h) hj]
    simp [List.getD]
/-- a list in the making -/
def OwnL (w : World) (base : Nat) (v : Value) (L : List Rg) : Prop := w.ownsRow base 37 6 v L.length (L.flatMap Rg.enc)
theorem own_read {w : World} {base : Nat} {v : Value} {L : List Rg} (h : OwnL w base v L) : ∃ p c, v = .slice p L.length c ∧ IsL w base p L := by
  obtain ⟨h1, h2 | ⟨g, cap, cur, e1, e2, e3, e4, e5, e6, e7⟩⟩ := h
  · refine ⟨none, 0, by rw [h2.1, h2.2], fun i hi => ?_⟩
    rw [h2.2] at hi; exact absurd hi (Nat.not_lt_zero _)
  · refine ⟨_, cap, e1, fun i hi => ⟨g, rfl, e2, (Array.getElem?_eq_some_iff.1 e3).1, fun j x hx => ?_⟩⟩
    have hj : j < 6 := (List.getElem?_eq_some_iff.1 hx).1
    rw [Go.Joins.cell_of_block e3 _]
    have : (cur.toList.take (L.length * 6))[i * 6 + j]? = (L.flatMap Rg.enc)[i * 6 + j]? := by rw [e7]
    rw [List.getElem?_take, if_pos (by omega), Array.getElem?_toList, flatR_enc L i j hi hj] at this
    rw [this]; exact hx
theorem IsL.lowl {w : World} {base n : Nat} {p : Option Addr} {L : List Rg} (h : IsL w base p L) (hn : w.heap.size ≤ n) : LowL w n p L := fun i hi => by
  obtain ⟨g, e, l1, l2, c⟩ := h i hi
  exact ⟨g, e, by omega, c⟩
theorem rg_info : (Try.prog.info? 37).map (·.size) = some 6 := by kernel_rfl
def zrg : Value := .agg #[.int .i64 0, .int .i64 0, .bool false, .bool false, .bool false, .int .i64 0]
theorem rg_info5 : (Try.prog.info? 37).map (fun i => (i.zero, i.size, i.bytes)) = some (some zrg, 6, 32) := by kernel_rfl
end Go.Proofs.Ytngaodfajihmmaa
