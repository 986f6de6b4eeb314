/- G0 G1 G2 G3 G4 G5 G6 GD GM GN G7 G8 G9 G10 G11 G12 GQ -/
import Derived.Test.YtkiclbnbnjbcaabDoorChecked
import Derived.WalkKit
import Derived.ProofKit
import Derived.OpenShut
import Derived.Carry
import Derived.Lib.SmallJoins
import Derived.Deep.Light
import Derived.Deep.MidRow
import Derived.Deep.RegionHeld3
import Derived.Deep.DrawnRows
import Derived.Handy
import Derived.Laws.MakeOwn
import Derived.MapKept
import Derived.Laws.Tables
import Derived.Maps.AppendAt
import Derived.Laws.OwnMore
import Derived.RegionTactic
import Derived.BigRegion
import Derived.Deep.DeepCutAuto
import Derived.Deep.Slices
namespace Go.Proofs.YtkiclbnbnjbcaabDoor.Re
open Go.ChangeShapes Go.WideShapes Go.ChangeAt Go.RowKit Go.Maps
set_option linter.unusedSimpArgs false
set_option linter.unusedVariables false
set_option maxRecDepth 8000

/-- a region -/
structure Rg where
  fr : Int
  tt : Int
  w : Bool
  u : Bool
  x : Bool
  kd : Int
def Rg.enc (r : Rg) : List Value := [.int .i64 r.fr, .int .i64 r.tt, .bool r.w, .bool r.u, .bool r.x, .int .i64 r.kd]
abbrev Rg.val (r : Rg) : Value := .agg #[.int .i64 r.fr, .int .i64 r.tt, .bool r.w, .bool r.u, .bool r.x, .int .i64 r.kd]
def Rg.zero : Rg := ⟨0, 0, false, false, false, 0⟩
abbrev rgV (f t : Int) : Value := .agg #[.int .i64 f, .int .i64 t]
abbrev pmV (w u x : Bool) : Value := .agg #[.bool w, .bool u, .bool x]
theorem below_new {w w' : World} (h : Below w.heap.size w w') (o : Obj) : Below w.heap.size w (w'.alloc o) := h.alloc h.size o
theorem below_then {w x y : World} (h1 : Below w.heap.size w x) (h2 : Below x.heap.size x y) : Below w.heap.size w y := h1.trans (Go.Joins.below_le h2 h1.size)
theorem grown_of_below {w w' : World} (h : Below w.heap.size w w') (r : Option Nat) : w.grownBy w' r := ⟨h.os, h.tape, h.output, h.size, fun k hk _ => h.block k hk⟩
theorem grown_setCell1 (w : World) (b o : Nat) (v : Value) : w.grownBy (w.setCell ⟨b, o, none⟩ v) (some b) := by
  have h : Below 0 w (w.setCell ⟨b, o, none⟩ v) := (Below.refl 0 w).setCell (Nat.zero_le _) v
  exact ⟨h.os, h.tape, h.output, h.size, fun k hk hne => Below.heap_setCell _ _ _ _ (fun e => hne (by rw [show k = b from e]))⟩
theorem grown_trans {a b c : World} {r : Option Nat} (h : a.grownBy b r) (k : b.grownBy c r) : a.grownBy c r := ⟨k.os.trans h.os, k.tape.trans h.tape, k.output.trans h.output, Nat.le_trans h.size k.size, fun j hj hne => (k.block j (Nat.lt_of_lt_of_le hj h.size) hne).trans (h.block j hj hne)⟩
theorem grown_refl (a : World) (r : Option Nat) : a.grownBy a r := ⟨rfl, rfl, rfl, Nat.le_refl _, fun _ _ _ => rfl⟩
theorem grown_setCells (b : Nat) : ∀ (vs : List Value) (o : Nat) (w : World), w.grownBy (w.setCells b o vs) (some b)
  | [], _, w => grown_refl w _
  | v :: r, o, w => by
    rw [World.setCells]
    exact grown_trans (grown_setCell1 w b o v) (grown_setCells b r (o + 1) _)
theorem kept_size (w : World) (b o : Nat) (vs : List Value) : w.heap.size ≤ (w.setCells b o vs).heap.size := (grown_setCells b vs o w).size
theorem store_pat {P : Program} {ops : Array Oper} {rest : List Oper} {ty t : TypeId} {x y : Operand} {pos : String} {af : Array Edge} {a : Act} {w : World} {Q : Exit → Act → World → Prop} (b o : Nat) (cells : Array Value) (hx : a.eval x = .pointer (some ⟨b, o, none⟩)) (hy : a.eval y = .agg cells)
    (ht : w.there b o cells.size) (hi : (P.info? ty).map (·.size) = some cells.size) (h1 : cells.all (·.oneCell') = true)
    (h : wpList P ops Q rest a (w.setCells b o cells.toList)) : wpList P ops Q ({ dst := none, op := .store ty x y, type := t, pos := pos, after := af, guard := none } :: rest) a w :=
  wpList_store_mid rfl ty x y rfl b o cells hx hy ht hi h1 h
theorem load_pat {P : Program} {ops : Array Oper} {rest : List Oper} {ty t : TypeId} {x : Operand} {q : Tmp} {pos : String} {af : Array Edge} {a : Act} {w : World} {Q : Exit → Act → World → Prop} (b o : Nat) (cs : List Value) (d : TypeDesc) (hx : a.eval x = .pointer (some ⟨b, o, none⟩)) (hc : w.rangeAt b o cs)
    (hu : P.underlying ty = some d) (hd : d.isRow = true) (hi : (P.info? ty).map (·.size) = some cs.length)
    (h : wpList P ops Q rest (a.put (some q) (.agg cs.toArray)) w) : wpList P ops Q ({ dst := some q, op := .load ty x, type := t, pos := pos, after := af, guard := none } :: rest) a w :=
  wpList_load_mid rfl ty x rfl b o hx cs d hc hu hd hi h
theorem own1 (w : World) (o : Obj) : (w.alloc o).heap[w.heap.size]? = some o := (MapKept.heap_alloc w o).1
theorem there_block {w : World} {b : Nat} {C : Array Value} {t : TypeId} (h : w.heap[b]? = some (.cells C t (0, 0))) : w.there b 0 C.size := fun j hj => by
  rw [Nat.zero_add]
  exact ⟨by rw [Go.Joins.cell_of_block h j, Array.getElem?_eq_getElem hj]; rfl, Go.Joins.unfrozen_of_block h j⟩
theorem cell_grown {w w' : World} {b k i : Nat} {v : Value} (hg : w.grownBy w' (some b)) (l : k < w.heap.size) (ne : k ≠ b) (h : w.cell? ⟨k, i, none⟩ = some v) : w'.cell? ⟨k, i, none⟩ = some v :=
  (World.cell?_of_block (w := w) (a := ⟨k, i, none⟩) (hg.block k l (fun e => ne (Option.some.inj e)))).trans h
theorem grown_alloc (w : World) (o : Obj) (r : Option Nat) : w.grownBy (w.alloc o) r := grown_of_below (Go.Joins.below_alloc1 w o) r
theorem info5 {P : Program} {e : TypeId} {z : Value} {s b : Nat} (h : (P.info? e).map (fun i => (i.zero, i.size, i.bytes)) = some (some z, s, b)) : ∃ i : TypeInfo, P.info? e = some i ∧ i.zero = some z ∧ i.size = s ∧ i.bytes = b := by
  cases hq : P.info? e with
  | none => simp [hq] at h
  | some i =>
    simp [hq] at h
    exact ⟨i, rfl, h.1, h.2.1, h.2.2⟩
theorem own_keep {w w' : World} {base n e s : Nat} {v : Value} {xs : List Value} (h : w.ownsRow base e s v n xs) (hb : Below w.heap.size w w') : w'.ownsRow base e s v n xs := by
  obtain ⟨h1, h2⟩ := h
  refine ⟨h1, ?_⟩
  rcases h2 with h2 | ⟨g', cap', cur, e1, e2, e3, e4⟩
  · exact Or.inl h2
  · have hg' : g' < w.heap.size := (Array.getElem?_eq_some_iff.1 e3).1
    exact Or.inr ⟨g', cap', cur, e1, e2, (hb.block g' hg').trans e3, e4⟩
theorem own_base {w : World} {base n e s : Nat} {v : Value} {xs : List Value} (h : w.ownsRow base e s v n xs) : ∀ j, v.ownBlock = some j → base ≤ j := by
  obtain ⟨h1, h2⟩ := h
  rcases h2 with h2 | ⟨g', cap', cur, e1, e2, e3, e4⟩
  · rw [h2.1]; intro j hj; cases hj
  · rw [e1]; intro j hj; cases hj; exact e2
theorem own2b (w : World) (o p : Obj) : ((w.alloc o).alloc p).heap[w.heap.size + 1]? = some p := by
  have := own1 (w.alloc o) p
  rw [World.size_alloc] at this; exact this
theorem news_cells (u : World) (o : Obj) (C : Array Value) (t : TypeId) : ∀ j x, C.toList[j]? = some x → ((u.alloc o).alloc (.cells C t)).cell? ((⟨u.heap.size + 1, 0, none⟩ : Addr).add j) = some x := by
  intro j x hx
  rw [Addr.add_mid, Nat.zero_add]
  exact (Go.Joins.cell_of_block (own2b u o (.cells C t)) j).trans (by simpa using hx)
theorem below_grown {w U a0 : World} {v : Value} {n e s : Nat} {xs : List Value} (B : Below w.heap.size w U) (O : U.ownsRow w.heap.size e s v n xs) (hg : U.grownBy a0 v.ownBlock) : Below w.heap.size w a0 :=
  B.grown hg B.size (fun j ej => own_base O j ej)
theorem renc_len (r : Rg) : r.enc.length = 6 := rfl
/-- a list of regions that lies at base or above -/
def IsL (w : World) (base : Nat) (p : Option Addr) (L : List Rg) : Prop := ∀ i, i < L.length → ∃ g, p = some ⟨g, 0, none⟩ ∧ base ≤ g ∧ g < w.heap.size ∧ ∀ j x, (L.getD i Rg.zero).enc[j]? = some x → w.cell? ⟨g, i * 6 + j, none⟩ = some x
theorem IsL.below {w w' : World} {base : Nat} {p : Option Addr} {L : List Rg} (h : IsL w base p L) (hb : Below w.heap.size w w') : IsL w' base p L := fun i hi => by
  obtain ⟨g, e, l1, l2, c⟩ := h i hi
  exact ⟨g, e, l1, Nat.lt_of_lt_of_le l2 hb.size, fun j x hx => (hb.cell (p := ⟨g, i * 6 + j, none⟩) l2).trans (c j x hx)⟩
/-- lists that lie below n stay -/
def LowL (w : World) (n : Nat) (p : Option Addr) (L : List Rg) : Prop := ∀ i, i < L.length → ∃ g, p = some ⟨g, 0, none⟩ ∧ g < n ∧ ∀ j x, (L.getD i Rg.zero).enc[j]? = some x → w.cell? ⟨g, i * 6 + j, none⟩ = some x
theorem LowL.low {w w' : World} {n : Nat} {p : Option Addr} {L : List Rg} (h : LowL w n p L) (hb : Below n w w') : LowL w' n p L := fun i hi => by
  obtain ⟨g, e, l2, c⟩ := h i hi
  exact ⟨g, e, l2, fun j x hx => (hb.cell (p := ⟨g, i * 6 + j, none⟩) l2).trans (c j x hx)⟩
theorem LowL.weak {w : World} {n m : Nat} {p : Option Addr} {L : List Rg} (h : LowL w n p L) (hb : n ≤ m) : LowL w m p L := fun i hi => by
  obtain ⟨g, e, l2, c⟩ := h i hi
  exact ⟨g, e, by omega, c⟩
theorem flatR_enc : ∀ (L : List Rg) (i j : Nat), i < L.length → j < 6 → (L.flatMap Rg.enc)[i * 6 + j]? = (L.getD i Rg.zero).enc[j]?
  | [], i, j, h, _ => absurd h (Nat.not_lt_zero _)
  | l :: r, 0, j, h, hj => by
    rw [List.flatMap_cons, List.getElem?_append_left (by rw [renc_len]; omega)]
    simp [List.getD]
  | l :: r, i + 1, j, h, hj => by
    rw [List.flatMap_cons, List.getElem?_append_right (by rw [renc_len]; omega), renc_len, show (i + 1) * 6 + j - 6 = i * 6 + j by omega, flatR_enc r i j (by simpa using h) hj]
    simp [List.getD]
/-- a list in the making -/
def OwnL (w : World) (base : Nat) (v : Value) (L : List Rg) : Prop := w.ownsRow base 46 6 v L.length (L.flatMap Rg.enc)
theorem own_read {w : World} {base : Nat} {v : Value} {L : List Rg} (h : OwnL w base v L) : ∃ p c, v = .slice p L.length c ∧ IsL w base p L := by
  obtain ⟨h1, h2 | ⟨g, cap, cur, e1, e2, e3, e4, e5, e6, e7⟩⟩ := h
  · refine ⟨none, 0, by rw [h2.1, h2.2], fun i hi => ?_⟩
    rw [h2.2] at hi; exact absurd hi (Nat.not_lt_zero _)
  · refine ⟨_, cap, e1, fun i hi => ⟨g, rfl, e2, (Array.getElem?_eq_some_iff.1 e3).1, fun j x hx => ?_⟩⟩
    have hj : j < 6 := (List.getElem?_eq_some_iff.1 hx).1
    rw [Go.Joins.cell_of_block e3 _]
    have : (cur.toList.take (L.length * 6))[i * 6 + j]? = (L.flatMap Rg.enc)[i * 6 + j]? := by rw [e7]
    rw [List.getElem?_take, if_pos (by omega), Array.getElem?_toList, flatR_enc L i j hi hj] at this
    rw [this]; exact hx
theorem IsL.lowl {w : World} {base n : Nat} {p : Option Addr} {L : List Rg} (h : IsL w base p L) (hn : w.heap.size ≤ n) : LowL w n p L := fun i hi => by
  obtain ⟨g, e, l1, l2, c⟩ := h i hi
  exact ⟨g, e, by omega, c⟩
theorem rg_info : (Tryd.prog.info? 46).map (·.size) = some 6 := by kernel_rfl
def zrg : Value := .agg #[.int .i64 0, .int .i64 0, .bool false, .bool false, .bool false, .int .i64 0]
theorem rg_info5 : (Tryd.prog.info? 46).map (fun i => (i.zero, i.size, i.bytes)) = some (some zrg, 6, 32) := by kernel_rfl
end Go.Proofs.YtkiclbnbnjbcaabDoor.Re
namespace Go.Proofs.YtkiclbnbnjbcaabDoor.Re
open Go.ChangeShapes Go.WideShapes Go.ChangeAt Go.RowKit Go.Maps
set_option linter.unusedSimpArgs false
set_option linter.unusedVariables false
set_option maxRecDepth 8000

theorem below_drew {n : Nat} {w W : World} (h : Below n w W) : Below n w W.drew := ⟨h.os, h.tape, h.output, h.size, h.block⟩
def Rg.perm (r : Rg) : Bool × Bool × Bool := (r.w, r.u, r.x)
def Rg.joins (a b : Rg) : Bool := a.tt == b.fr && (a.perm == b.perm && a.kd == b.kd)
set_option maxHeartbeats 1000000 in
theorem make_any (a b : Rg) (w : World) : Calls Tryd.prog 52 #[a.val, b.val] w fun e w' => e = .returned (.bool (a.joins b)) ∧ Below w.heap.size w w' := by
  obtain ⟨a1, a2, a3, a4, a5, a6⟩ := a
  obtain ⟨b1, b2, b3, b4, b5, b6⟩ := b
  unfold Rg.joins Rg.perm
  by_cases c1 : a2 = b1
  · have d1 : (a2 == b1) = true := by simp [c1]
    by_cases c3 : a6 = b6
    · have d3 : (a6 == b6) = true := by simp [c3]
      subst c1 c3
      go_enter Tryd.func52, Tryd.ntmps52
      go_wp2
      all_goals
        go_returns
        exact ⟨by simp_all, Go.Joins.below_alloc2 _ _ _⟩
    · have d3 : (a6 == b6) = false := by simp [c3]
      subst c1
      go_enter Tryd.func52, Tryd.ntmps52
      go_wp2
      all_goals
        go_returns
        exact ⟨by simp_all, Go.Joins.below_alloc2 _ _ _⟩
  · have d1 : (a2 == b1) = false := by simp [c1]
    go_enter Tryd.func52, Tryd.ntmps52
    go_wp2
    all_goals
      go_returns
      exact ⟨by simp_all, Go.Joins.below_alloc2 _ _ _⟩
theorem max_cases (a b : Int) : (a < b ∧ max a b = b) ∨ (b ≤ a ∧ max a b = a) := by
  by_cases c : a < b
  · exact Or.inl ⟨c, by omega⟩
  · exact Or.inr ⟨by omega, by omega⟩
theorem min_cases (a b : Int) : (b < a ∧ min a b = b) ∨ (a ≤ b ∧ min a b = a) := by
  by_cases c : b < a
  · exact Or.inl ⟨c, by omega⟩
  · exact Or.inr ⟨by omega, by omega⟩
set_option maxHeartbeats 1000000 in
theorem common_any (a1 a2 b1 b2 : Int) (w : World) : Calls Tryd.prog 41 #[rgV a1 a2, rgV b1 b2] w fun e w' => e = .returned (rgV (max a1 b1) (min a2 b2)) ∧ Below w.heap.size w w' := by
  rcases max_cases a1 b1 with ⟨c, e1⟩ | ⟨c, e1⟩
  all_goals
    rcases min_cases a2 b2 with ⟨d, e2⟩ | ⟨d, e2⟩
    all_goals
      rw [e1, e2]
      clear e1 e2
      go_enter Tryd.func41, Tryd.ntmps41
      go_wp2
      all_goals
        go_returns
        exact ⟨by first | rfl | (exfalso; omega), Go.Joins.below_alloc3 _ _ _ _⟩
end Go.Proofs.YtkiclbnbnjbcaabDoor.Re
namespace Go.Proofs.YtkiclbnbnjbcaabDoor.Re
open Go.ChangeShapes Go.WideShapes Go.ChangeAt Go.RowKit Go.Maps
set_option linter.unusedSimpArgs false
set_option linter.unusedVariables false
set_option maxRecDepth 8000

theorem below_setCells {w x : World} (h : Below w.heap.size w x) (b o : Nat) (vs : List Value) (hb : w.heap.size ≤ b) : Below w.heap.size w (x.setCells b o vs) := by
  have g := grown_setCells b vs o x
  exact h.trans ⟨g.os, g.tape, g.output, g.size, fun k hk => g.block k (Nat.lt_of_lt_of_le hk h.size) (fun e => by have := Option.some.inj e; omega)⟩
theorem results_pair {fn : Func} {p q : Tmp} {t : TypeId} (h : fn.results = #[.cell p t, .tmp q]) (tmps : Array Value) (P : Program) (w : World) (a : Addr) (x y : Value)
    (ha : tmps.getD p undef = .pointer (some a)) (hb : tmps.getD q undef = y) (hx : (loadVar t a).run P w = .ok x w) :
    (results fn tmps).run P w = .ok (.tuple #[x, y]) w := by
  simp only [results, h]
  have e1 : ∀ W : World, (asAddr (Value.pointer (some a))).run P W = .ok a W := fun _ => rfl
  simp at ha hb
  simp [Sem.run_bind, Result.andThen, ha, hb, e1, hx]
def rightB (f t : Int) : Bool := decide (0 ≤ f) && (decide (f < t) && (decide (t ≤ 34359738368) && decide (t - f ≤ 65536)))
set_option maxHeartbeats 1000000 in
theorem right_any (f t : Int) (w : World) : Calls Tryd.prog 50 #[rgV f t] w fun e w' => e = .returned (.bool (rightB f t)) ∧ Below w.heap.size w w' := by
  unfold rightB
  by_cases c1 : 0 ≤ f
  · have d1 : decide (0 ≤ f) = true := by simp [c1]
    by_cases c2 : f < t
    · have d2 : decide (f < t) = true := by simp [c2]
      by_cases c3 : t ≤ 34359738368
      · have d3 : decide (t ≤ 34359738368) = true := by simp [c3]
        by_cases c4 : t - f ≤ 65536
        · have d4 : decide (t - f ≤ 65536) = true := by simp [c4]
          go_enter Tryd.func50, Tryd.ntmps50
          go_wp2
          go_returns
          exact ⟨by simp [d1, d2, d3, d4], Go.Joins.below_alloc1 _ _⟩
        · have d4 : decide (t - f ≤ 65536) = false := by simp; omega
          go_enter Tryd.func50, Tryd.ntmps50
          go_wp2
          go_returns
          exact ⟨by simp [d1, d2, d3, d4], Go.Joins.below_alloc1 _ _⟩
      · have d3 : decide (t ≤ 34359738368) = false := by simp [c3]
        go_enter Tryd.func50, Tryd.ntmps50
        go_wp2
        go_returns
        exact ⟨by simp [d1, d2, d3], Go.Joins.below_alloc1 _ _⟩
    · have d2 : decide (f < t) = false := by simp [c2]
      go_enter Tryd.func50, Tryd.ntmps50
      go_wp2
      go_returns
      exact ⟨by simp [d1, d2], Go.Joins.below_alloc1 _ _⟩
  · have d1 : decide (0 ≤ f) = false := by simp [c1]
    go_enter Tryd.func50, Tryd.ntmps50
    go_wp2
    go_returns
    exact ⟨by simp [d1], Go.Joins.below_alloc1 _ _⟩
/-- the first region of a page -/
def findR : List Rg → Int → Rg × Bool
  | [], _ => (Rg.zero, false)
  | r :: l, i => if r.fr ≤ i ∧ i < r.tt then (r, true) else findR l i
def Rg.has (r : Rg) (i : Int) : Prop := r.fr ≤ i ∧ i < r.tt
theorem findR_hit (i : Int) : ∀ (B : List Rg) (j : Nat), j < B.length → (∀ k, k < j → ¬ (B.getD k Rg.zero).has i) → (B.getD j Rg.zero).has i → findR B i = (B.getD j Rg.zero, true)
  | [], j, h, _, _ => absurd h (Nat.not_lt_zero _)
  | b :: r, 0, _, _, e => by
    have e' : b.fr ≤ i ∧ i < b.tt := by simpa [List.getD, Rg.has] using e
    unfold findR; rw [if_pos e']; simp [List.getD]
  | b :: r, j + 1, h, n, e => by
    have n0 : ¬ (b.fr ≤ i ∧ i < b.tt) := by have := n 0 (by omega); simpa [List.getD, Rg.has] using this
    have e' : (r.getD j Rg.zero).has i := by simpa [List.getD] using e
    unfold findR
    rw [if_neg n0, findR_hit i r j (by simpa using h) (fun k hk => by simpa [List.getD] using n (k + 1) (by omega)) e']
    simp [List.getD]
theorem findR_miss (i : Int) : ∀ (B : List Rg), (∀ k, k < B.length → ¬ (B.getD k Rg.zero).has i) → findR B i = (Rg.zero, false)
  | [], _ => rfl
  | b :: r, n => by
    have n0 : ¬ (b.fr ≤ i ∧ i < b.tt) := by have := n 0 (by simp); simpa [List.getD, Rg.has] using this
    unfold findR
    rw [if_neg n0, findR_miss i r (fun k hk => by simpa [List.getD] using n (k + 1) (by simpa using hk))]
set_option maxHeartbeats 2000000 in
theorem find_any (base : Nat) (p : Option Addr) (c : Nat) (B : List Rg) (hB : B.length ≤ 100) (i : Int) (w : World) (h : IsL w base p B) :
    Calls Tryd.prog 14 #[.slice p B.length c, .int .i64 i] w fun e w' => e = .returned (.tuple #[(findR B i).1.val, .bool (findR B i).2]) ∧ Below w.heap.size w w' := by
  obtain ⟨z, hz⟩ : ∃ z, findR B i = z := ⟨_, rfl⟩
  rw [hz]
  have HZ : Hid (findR B i = z) := hz
  have HB : Hid (IsL w base p B) := h
  clear hz h
  go_enter Tryd.func14, Tryd.ntmps14
  go_wp2_with fail
  go_loopw [10] (fun x W => ∃ m : Nat, m ≤ B.length ∧ x = .int .i64 m ∧ Hid (IsL W base p B) ∧ Hid (Below w.heap.size w W) ∧ Hid (W.heap[w.heap.size]? = some (.cells #[.int .i64 0, .int .i64 0, .bool false, .bool false, .bool false, .int .i64 0] 46 (0, 0))) ∧ Hid (∀ k, k < m → ¬ (B.getD k Rg.zero).has i)) (fun x _ => B.length - (intOf x).toNat)
  case atStart => exact ⟨0, by omega, rfl, HB.out.below (Go.Joins.below_alloc1 _ _), Go.Joins.below_alloc1 _ _, own1 w _, fun k hk => absurd hk (Nat.not_lt_zero _)⟩
  case round =>
    obtain ⟨m, hm, rfl, hI, hb, hk, hno⟩ := hrel
    have lw : w.heap.size < wr.heap.size := (Array.getElem?_eq_some_iff.1 hk.out).1
    by_cases hlm : m < B.length
    · have hd : decide ((m : Int) < (B.length : Int)) = true := by simp; omega
      obtain ⟨g, rfl, g1, g2, gc⟩ := hI.out m hlm
      have HIT : Hid ((B.getD m Rg.zero).has i → z = (B.getD m Rg.zero, true)) := fun e => by rw [← HZ.out]; exact findR_hit i B m hlm hno.out e
      have NX : Hid (¬ (B.getD m Rg.zero).has i → ∀ k, k < m + 1 → ¬ (B.getD k Rg.zero).has i) := fun e k hk => by
        by_cases q : k = m
        · subst q; exact e
        · exact hno.out k (by omega)
      generalize B.getD m Rg.zero = bx at gc HIT NX
      obtain ⟨r1, r2, r3, r4, r5, r6⟩ := bx
      have y0 : wr.cell? ⟨g, m * 6, none⟩ = some (.int .i64 r1) := gc 0 _ rfl
      have y1 : wr.cell? ⟨g, m * 6 + 1, none⟩ = some (.int .i64 r2) := gc 1 _ rfl
      have y2 : wr.cell? ⟨g, m * 6 + 2, none⟩ = some (.bool r3) := gc 2 _ rfl
      have y3 : wr.cell? ⟨g, m * 6 + 3, none⟩ = some (.bool r4) := gc 3 _ rfl
      have y4 : wr.cell? ⟨g, m * 6 + 4, none⟩ = some (.bool r5) := gc 4 _ rfl
      have y5 : wr.cell? ⟨g, m * 6 + 5, none⟩ = some (.int .i64 r6) := gc 5 _ rfl
      clear gc
      by_cases c1 : r1 ≤ i
      · have e1 : decide (r1 ≤ i) = true := by simp [c1]
        by_cases c2 : i < r2
        · have e2 : decide (i < r2) = true := by simp [c2]
          have ez := HIT.out ⟨c1, c2⟩
          subst ez
          clear HIT NX HZ
          have BA : Hid (Below w.heap.size w (wr.alloc (.cells #[.int .i64 r1, .int .i64 r2, .bool r3, .bool r4, .bool r5, .int .i64 r6] 46))) := below_new hb.out _
          have TH : Hid ((wr.alloc (.cells #[.int .i64 r1, .int .i64 r2, .bool r3, .bool r4, .bool r5, .int .i64 r6] 46)).there w.heap.size 0 6) := there_block (((Go.Joins.below_alloc1 wr _).block _ lw).trans hk.out)
          go_wp2_with (refine store_pat (x := .tmp 4) w.heap.size 0 #[.int .i64 r1, .int .i64 r2, .bool r3, .bool r4, .bool r5, .int .i64 r6] ?hx ?hy ?ht ?hi ?h1 ?rest; (case hx => rfl); (case hy => rfl); (case ht => exact TH.out); (case hi => exact rg_info); (case h1 => simp [Value.oneCell']); generalize hW2 : World.setCells _ _ _ _ = W2; have HW2 : Hid ((wr.alloc (.cells #[.int .i64 r1, .int .i64 r2, .bool r3, .bool r4, .bool r5, .int .i64 r6] 46)).setCells w.heap.size 0 [.int .i64 r1, .int .i64 r2, .bool r3, .bool r4, .bool r5, .int .i64 r6] = W2) := hW2; clear hW2)
          have hr := run_loadVar_mid (P := Tryd.prog) ((wr.alloc (.cells #[.int .i64 r1, .int .i64 r2, .bool r3, .bool r4, .bool r5, .int .i64 r6] 46)).setCells w.heap.size 0 [.int .i64 r1, .int .i64 r2, .bool r3, .bool r4, .bool r5, .int .i64 r6]) w.heap.size 0 46 [.int .i64 r1, .int .i64 r2, .bool r3, .bool r4, .bool r5, .int .i64 r6] _ (World.rangeAt_setCells_same _ w.heap.size 0 [.int .i64 r1, .int .i64 r2, .bool r3, .bool r4, .bool r5, .int .i64 r6] TH.out) Tryd.underlying46 rfl rg_info
          have hb2 := below_setCells BA.out w.heap.size 0 [.int .i64 r1, .int .i64 r2, .bool r3, .bool r4, .bool r5, .int .i64 r6] (Nat.le_refl _)
          rw [HW2.out] at hr hb2
          refine bodyPost_ret (v := .tuple #[.agg #[.int .i64 r1, .int .i64 r2, .bool r3, .bool r4, .bool r5, .int .i64 r6], .bool true]) ?_ rfl ⟨rfl, hb2⟩
          exact results_pair Tryd.results14 _ _ _ _ _ _ rfl rfl hr
        · have e2 : decide (i < r2) = false := by simp [c2]
          have N2 : Hid (∀ k, k < m + 1 → ¬ (B.getD k Rg.zero).has i) := NX.out (by unfold Rg.has; simp only; omega)
          clear NX HIT
          go_wp2_with fail
          go_roundw
          case rel => exact ⟨m + 1, by omega, by go_num, hI.out.below (Go.Joins.below_alloc1 _ _), below_new hb.out _, ((Go.Joins.below_alloc1 wr _).block _ lw).trans hk.out, N2⟩
          case measure => simp [intOf]; omega
      · have e1 : decide (r1 ≤ i) = false := by simp [c1]
        have N2 : Hid (∀ k, k < m + 1 → ¬ (B.getD k Rg.zero).has i) := NX.out (by unfold Rg.has; simp only; omega)
        clear NX HIT
        go_wp2_with fail
        go_roundw
        case rel => exact ⟨m + 1, by omega, by go_num, hI.out.below (Go.Joins.below_alloc1 _ _), below_new hb.out _, ((Go.Joins.below_alloc1 wr _).block _ lw).trans hk.out, N2⟩
        case measure => simp [intOf]; omega
    · obtain rfl : m = B.length := by omega
      have ez : z = (Rg.zero, false) := by rw [← HZ.out]; exact findR_miss i B hno.out
      subst ez
      have TH : Hid (wr.there w.heap.size 0 6) := there_block hk.out
      clear HZ hno
      have r0 : wr.cell? ⟨w.heap.size, 0, none⟩ = some (.int .i64 0) := Go.Joins.cell_of_block hk.out 0
      have f0 : wr.frozen? ⟨w.heap.size, 0, none⟩ = false := Go.Joins.unfrozen_of_block hk.out 0
      have r1 : wr.cell? ⟨w.heap.size, 1, none⟩ = some (.int .i64 0) := Go.Joins.cell_of_block hk.out 1
      have f1 : wr.frozen? ⟨w.heap.size, 1, none⟩ = false := Go.Joins.unfrozen_of_block hk.out 1
      have r2 : wr.cell? ⟨w.heap.size, 2, none⟩ = some (.bool false) := Go.Joins.cell_of_block hk.out 2
      have f2 : wr.frozen? ⟨w.heap.size, 2, none⟩ = false := Go.Joins.unfrozen_of_block hk.out 2
      have r3 : wr.cell? ⟨w.heap.size, 3, none⟩ = some (.bool false) := Go.Joins.cell_of_block hk.out 3
      have f3 : wr.frozen? ⟨w.heap.size, 3, none⟩ = false := Go.Joins.unfrozen_of_block hk.out 3
      have r4 : wr.cell? ⟨w.heap.size, 4, none⟩ = some (.bool false) := Go.Joins.cell_of_block hk.out 4
      have f4 : wr.frozen? ⟨w.heap.size, 4, none⟩ = false := Go.Joins.unfrozen_of_block hk.out 4
      have r5 : wr.cell? ⟨w.heap.size, 5, none⟩ = some (.int .i64 0) := Go.Joins.cell_of_block hk.out 5
      have f5 : wr.frozen? ⟨w.heap.size, 5, none⟩ = false := Go.Joins.unfrozen_of_block hk.out 5
      go_wp2_with fail
      change bodyPost _ _ _ _ _ (wr.setCells w.heap.size 0 [.int .i64 0, .int .i64 0, .bool false, .bool false, .bool false, .int .i64 0])
      have hr := run_loadVar_mid (P := Tryd.prog) (wr.setCells w.heap.size 0 [.int .i64 0, .int .i64 0, .bool false, .bool false, .bool false, .int .i64 0]) w.heap.size 0 46 [.int .i64 0, .int .i64 0, .bool false, .bool false, .bool false, .int .i64 0] _ (World.rangeAt_setCells_same _ w.heap.size 0 [.int .i64 0, .int .i64 0, .bool false, .bool false, .bool false, .int .i64 0] TH.out) Tryd.underlying46 rfl rg_info
      refine bodyPost_ret (v := .tuple #[.agg #[.int .i64 0, .int .i64 0, .bool false, .bool false, .bool false, .int .i64 0], .bool false]) ?_ rfl ⟨rfl, below_setCells hb.out _ _ _ (Nat.le_refl _)⟩
      exact results_pair Tryd.results14 _ _ _ _ _ _ rfl rfl hr
end Go.Proofs.YtkiclbnbnjbcaabDoor.Re
namespace Go.Proofs.YtkiclbnbnjbcaabDoor.Re
open Go.ChangeShapes Go.WideShapes Go.ChangeAt Go.RowKit Go.Maps
set_option linter.unusedSimpArgs false
set_option linter.unusedVariables false
set_option maxRecDepth 8000

def endAt (L : List Rg) : Nat → Int
  | 0 => 0
  | i + 1 => (L.getD i Rg.zero).tt
def okR (e : Int) (r : Rg) : Bool := !(decide (r.fr < e)) && (decide (r.fr < r.tt) && decide (r.tt ≤ 34359738368))
def jnAt (L : List Rg) : Nat → Bool
  | 0 => false
  | i + 1 => (L.getD i Rg.zero).joins (L.getD (i + 1) Rg.zero)
def okAt (L : List Rg) (i : Nat) : Bool := okR (endAt L i) (L.getD i Rg.zero) && !(jnAt L i)
def allB (f : Nat → Bool) : Nat → Bool
  | 0 => true
  | n + 1 => allB f n && f n
theorem allB_iff (f : Nat → Bool) : ∀ n, allB f n = true ↔ ∀ i, i < n → f i = true
  | 0 => ⟨fun _ i hi => absurd hi (Nat.not_lt_zero _), fun _ => rfl⟩
  | n + 1 => by
    unfold allB
    rw [Bool.and_eq_true, allB_iff f n]
    constructor
    · rintro ⟨h1, h2⟩ i hi
      by_cases c : i = n
      · subst c; exact h2
      · exact h1 i (by omega)
    · intro h; exact ⟨fun i hi => h i (by omega), h n (by omega)⟩
theorem allB_no (f : Nat → Bool) (n i : Nat) (hi : i < n) (h : f i = false) : allB f n = false := by
  cases c : allB f n
  · rfl
  · have := (allB_iff f n).1 c i hi; rw [h] at this; cases this
def goodB (L : List Rg) : Bool := decide (L.length ≤ 64) && allB (okAt L) L.length
set_option maxHeartbeats 2000000 in
theorem good_any (base : Nat) (p : Option Addr) (c : Nat) (L : List Rg) (hL : L.length ≤ 100) (w : World) (h : IsL w base p L) :
    Calls Tryd.prog 51 #[.slice p L.length c] w fun e w' => e = .returned (.bool (goodB L)) ∧ Below w.heap.size w w' := by
  obtain ⟨z, hz⟩ : ∃ z, goodB L = z := ⟨_, rfl⟩
  rw [hz]
  have HZ : Hid (goodB L = z) := hz
  have HI : Hid (IsL w base p L) := h
  have MK : Hid (∀ (a b : Rg) (W : World), Calls Tryd.prog 52 #[a.val, b.val] W fun e w' => e = .returned (.bool (a.joins b)) ∧ Below W.heap.size W w') := make_any
  clear hz h
  by_cases big : 64 < L.length
  · have hd0 : decide (64 < (L.length : Int)) = true := by simp; omega
    obtain rfl : z = false := by
      rw [← HZ.out]; unfold goodB
      rw [show decide (L.length ≤ 64) = false by simp; omega]; rfl
    go_enter Tryd.func51, Tryd.ntmps51
    go_wp2_with fail
    go_ret
    exact ⟨rfl, Below.refl _ _⟩
  have hd0 : decide (64 < (L.length : Int)) = false := by simp; omega
  have ZA : Hid (z = allB (okAt L) L.length) := by
    show _ = _
    rw [← HZ.out]; unfold goodB
    rw [show decide (L.length ≤ 64) = true by simp; omega]; rfl
  clear HZ
  go_enter Tryd.func51, Tryd.ntmps51
  go_wp2_with fail
  go_loopw [3, 11] (fun en x W => ∃ (m : Nat) (e : Int), m ≤ L.length ∧ en = .int .i64 e ∧ x = .int .i64 m ∧ Hid (e = endAt L m) ∧ Hid (∀ j, j < m → okAt L j = true) ∧ Hid (IsL W base p L) ∧ Hid (Below w.heap.size w W)) (fun _ x _ => L.length - (intOf x).toNat)
  case atStart => exact ⟨0, 0, by omega, rfl, rfl, rfl, fun j hj => absurd hj (Nat.not_lt_zero _), HI, Below.refl _ _⟩
  case round =>
    obtain ⟨m, e, hm, rfl, rfl, hE, hG, hI, hb⟩ := hrel
    by_cases hlm : m < L.length
    · have hd : decide ((m : Int) < (L.length : Int)) = true := by simp; omega
      obtain ⟨g, rfl, g1, g2, gc⟩ := hI.out m hlm
      have NO : Hid (okAt L m = false → z = false) := fun h => by rw [ZA.out]; exact allB_no _ _ m hlm h
      have YES : Hid (okAt L m = true → ∀ j, j < m + 1 → okAt L j = true) := fun h j hj => by
        by_cases c : j = m
        · subst c; exact h
        · exact hG.out j (by omega)
      have OK : Hid (okAt L m = (okR e (L.getD m Rg.zero) && !(jnAt L m))) := by show _ = _; unfold okAt; rw [hE.out]
      have EN : Hid (endAt L (m + 1) = (L.getD m Rg.zero).tt) := rfl
      have JN : Hid (∀ n, m = n + 1 → jnAt L m = (L.getD n Rg.zero).joins (L.getD m Rg.zero)) := fun n e => by subst e; rfl
      have J0 : Hid (m = 0 → jnAt L m = false) := fun e => by subst e; rfl
      generalize L.getD m Rg.zero = rr at gc OK EN JN
      obtain ⟨r1, r2, r3, r4, r5, r6⟩ := rr
      have y0 : wr.cell? ⟨g, m * 6, none⟩ = some (.int .i64 r1) := gc 0 _ rfl
      have y1 : wr.cell? ⟨g, m * 6 + 1, none⟩ = some (.int .i64 r2) := gc 1 _ rfl
      have y2 : wr.cell? ⟨g, m * 6 + 2, none⟩ = some (.bool r3) := gc 2 _ rfl
      have y3 : wr.cell? ⟨g, m * 6 + 3, none⟩ = some (.bool r4) := gc 3 _ rfl
      have y4 : wr.cell? ⟨g, m * 6 + 4, none⟩ = some (.bool r5) := gc 4 _ rfl
      have y5 : wr.cell? ⟨g, m * 6 + 5, none⟩ = some (.int .i64 r6) := gc 5 _ rfl
      clear gc
      unfold okR at OK
      simp only at OK EN
      generalize jnAt L m = jn at OK JN J0
      by_cases c1 : r1 < e
      · have d1 : decide (r1 < e) = true := by simp [c1]
        obtain rfl : z = false := NO.out (by rw [OK.out]; simp [d1])
        clear OK NO YES JN J0 EN
        go_wp2_with fail
        go_ret
        exact ⟨rfl, below_new hb.out _⟩
      have d1 : decide (r1 < e) = false := by simp [c1]
      by_cases c2 : r1 < r2
      rotate_left
      · have d2 : decide (r2 ≤ r1) = true := by simp; omega
        obtain rfl : z = false := NO.out (by rw [OK.out]; simp [c2])
        clear OK NO YES JN J0 EN
        go_wp2_with fail
        go_ret
        exact ⟨rfl, below_new hb.out _⟩
      have d2 : decide (r2 ≤ r1) = false := by simp; omega
      by_cases c3 : r2 ≤ 34359738368
      rotate_left
      · have d3 : decide (34359738368 < r2) = true := by simp; omega
        obtain rfl : z = false := NO.out (by rw [OK.out]; simp [c3])
        clear OK NO YES JN J0 EN
        go_wp2_with fail
        go_ret
        exact ⟨rfl, below_new hb.out _⟩
      have d3 : decide (34359738368 < r2) = false := by simp; omega
      have OK2 : Hid (okAt L m = !jn) := by
        show _ = _
        rw [OK.out]; simp [c2, c3]; omega
      clear OK c1 c2 c3
      by_cases m0 : m = 0
      · have dm : decide (0 < (m : Int)) = false := by simp; omega
        have N2 := YES.out (by rw [OK2.out, J0.out m0]; rfl)
        have M0 : Hid (m = 0) := m0
        clear m0
        have N3 : Hid (∀ j, j < m + 1 → okAt L j = true) := N2
        clear N2 YES NO JN J0 OK2
        go_wp2_with fail
        refine wp_region_noPanic ?_
        refine wp_region_held_drew (S := fun c => c.cell? ⟨wr.heap.size, 1, none⟩ = some (.int .i64 r2)) (by kernel_rfl) ?_ (fun hHeld => ?_)
        · simp
        refine wpAnyH_take (i := 0) (oi := ⟨some 36, _, _, _, _, none⟩) (v := ?_) rfl (by kernel_rfl) (by kernel_rfl) (by kernel_rfl) (fun _ _ _ h => h) (Or.inl ⟨by rfl, ?_⟩) (by assumption) ?_
        rotate_left
        · intro w hSw; (try dsimp only at hSw); go_simp; (try with_reducible rfl)
        try simp only [Act.put, List.setIfInBounds_toArray, List.set_cons_zero, List.set_cons_succ]
        refine wpAnyH_take (i := 1) (oi := ⟨some 37, _, _, _, _, none⟩) (v := .bool false) rfl (by kernel_rfl) (by kernel_rfl) (by kernel_rfl) (fun _ _ _ h => h) (Or.inl ⟨by rfl, ?_⟩) (by assumption) ?_
        · intro w hSw; (try dsimp only at hSw); go_simp; (try simp); (try (have := M0.out; omega))
        try simp only [Act.put, List.setIfInBounds_toArray, List.set_cons_zero, List.set_cons_succ]
        refine wpAnyH_take (i := 2) (oi := ⟨some 38, _, _, _, _, none⟩) (v := ?_) rfl (by kernel_rfl) (by kernel_rfl) (by kernel_rfl) (fun _ _ _ h => h) (Or.inl ⟨by rfl, ?_⟩) (by assumption) ?_
        rotate_left
        · intro w hSw; (try dsimp only at hSw); go_simp; (try with_reducible rfl)
        try simp only [Act.put, List.setIfInBounds_toArray, List.set_cons_zero, List.set_cons_succ]
        refine wpAnyH_take (i := 3) (oi := ⟨some 39, _, _, _, _, some (2, true)⟩) (v := undef) rfl (by kernel_rfl) (by kernel_rfl) (by kernel_rfl) (fun _ _ _ h => h) (Or.inr ⟨by rfl, rfl⟩) (by assumption) ?_
        try simp only [Act.put, List.setIfInBounds_toArray, List.set_cons_zero, List.set_cons_succ]
        refine wpAnyH_take (i := 4) (oi := ⟨some 40, _, _, _, _, some (2, true)⟩) (v := undef) rfl (by kernel_rfl) (by kernel_rfl) (by kernel_rfl) (fun _ _ _ h => h) (Or.inr ⟨by rfl, rfl⟩) (by assumption) ?_
        try simp only [Act.put, List.setIfInBounds_toArray, List.set_cons_zero, List.set_cons_succ]
        refine wpAnyH_take (i := 5) (oi := ⟨some 41, _, _, _, _, some (2, true)⟩) (v := undef) rfl (by kernel_rfl) (by kernel_rfl) (by kernel_rfl) (fun _ _ _ h => h) (Or.inr ⟨by rfl, rfl⟩) (by assumption) ?_
        try simp only [Act.put, List.setIfInBounds_toArray, List.set_cons_zero, List.set_cons_succ]
        refine wpAnyH_take (i := 6) (oi := ⟨some 42, _, _, _, _, some (2, true)⟩) (v := undef) rfl (by kernel_rfl) (by kernel_rfl) (by kernel_rfl) (fun _ _ _ h => h) (Or.inr ⟨by rfl, rfl⟩) (by assumption) ?_
        try simp only [Act.put, List.setIfInBounds_toArray, List.set_cons_zero, List.set_cons_succ]
        refine wpAnyH_take (i := 7) (oi := ⟨some 43, _, _, _, _, some (2, true)⟩) (v := undef) rfl (by kernel_rfl) (by kernel_rfl) (by kernel_rfl) (fun _ _ _ h => h) (Or.inr ⟨by rfl, rfl⟩) (by assumption) ?_
        try simp only [Act.put, List.setIfInBounds_toArray, List.set_cons_zero, List.set_cons_succ]
        refine wpAnyH_take (i := 8) (oi := ⟨some 44, _, _, _, _, some (2, true)⟩) (v := undef) rfl (by kernel_rfl) (by kernel_rfl) (by kernel_rfl) (fun _ _ _ h => h) (Or.inr ⟨by rfl, rfl⟩) (by assumption) ?_
        try simp only [Act.put, List.setIfInBounds_toArray, List.set_cons_zero, List.set_cons_succ]
        refine wpAnyH_take (i := 9) (oi := ⟨some 45, _, _, _, _, some (2, true)⟩) (v := undef) rfl (by kernel_rfl) (by kernel_rfl) (by kernel_rfl) (fun _ _ _ h => h) (Or.inr ⟨by rfl, rfl⟩) (by assumption) ?_
        try simp only [Act.put, List.setIfInBounds_toArray, List.set_cons_zero, List.set_cons_succ]
        refine wpAnyH_take (i := 10) (oi := ⟨some 46, _, _, _, _, none⟩) (v := ?_) rfl (by kernel_rfl) (by kernel_rfl) (by kernel_rfl) (fun _ _ _ h => h) (Or.inl ⟨by rfl, ?_⟩) (by assumption) ?_
        rotate_left
        · intro w hSw; (try dsimp only at hSw); go_simp; (try with_reducible rfl)
        try simp only [Act.put, List.setIfInBounds_toArray, List.set_cons_zero, List.set_cons_succ]
        clear hHeld
        refine wpAnyH_done (by kernel_rfl) ?_ _
        refine NoPanic.normal ?_
        go_wp2_with fail
        go_roundw
        case rel => exact ⟨m + 1, r2, by omega, rfl, by go_num, EN.out.symm, N3, hI.out.below (below_drew (Go.Joins.below_alloc1 _ _)), below_drew (below_new hb.out _)⟩
        case measure => simp [intOf]; omega
      · have dm : decide (0 < (m : Int)) = true := by simp; omega
        obtain ⟨g', ge, _, g2', gc'⟩ := hI.out (m - 1) (by omega)
        obtain rfl : g' = g := by cases ge; rfl
        have jv := JN.out (m - 1) (by omega)
        generalize L.getD (m - 1) Rg.zero = pp at gc' jv
        obtain ⟨q1, q2, q3, q4, q5, q6⟩ := pp
        have x0 : wr.cell? ⟨g', (m - 1) * 6, none⟩ = some (.int .i64 q1) := gc' 0 _ rfl
        have x1 : wr.cell? ⟨g', (m - 1) * 6 + 1, none⟩ = some (.int .i64 q2) := gc' 1 _ rfl
        have x2 : wr.cell? ⟨g', (m - 1) * 6 + 2, none⟩ = some (.bool q3) := gc' 2 _ rfl
        have x3 : wr.cell? ⟨g', (m - 1) * 6 + 3, none⟩ = some (.bool q4) := gc' 3 _ rfl
        have x4 : wr.cell? ⟨g', (m - 1) * 6 + 4, none⟩ = some (.bool q5) := gc' 4 _ rfl
        have x5 : wr.cell? ⟨g', (m - 1) * 6 + 5, none⟩ = some (.int .i64 q6) := gc' 5 _ rfl
        clear gc' g1
        have MJ := MK.out ⟨q1, q2, q3, q4, q5, q6⟩ ⟨r1, r2, r3, r4, r5, r6⟩
        rw [← jv] at MJ
        have MJ' : Hid _ := MJ
        clear MJ jv JN J0
        go_wp2_with fail
        refine wp_region_noPanic ?_
        refine wp_region_held_drew (S := fun c => c.cell? ⟨wr.heap.size, 0, none⟩ = some (.int .i64 r1) ∧ c.cell? ⟨wr.heap.size, 1, none⟩ = some (.int .i64 r2) ∧ c.cell? ⟨wr.heap.size, 2, none⟩ = some (.bool r3) ∧ c.cell? ⟨wr.heap.size, 3, none⟩ = some (.bool r4) ∧ c.cell? ⟨wr.heap.size, 4, none⟩ = some (.bool r5) ∧ c.cell? ⟨wr.heap.size, 5, none⟩ = some (.int .i64 r6) ∧ c.cell? ⟨g', (m - 1) * 6, none⟩ = some (.int .i64 q1) ∧ c.cell? ⟨g', (m - 1) * 6 + 1, none⟩ = some (.int .i64 q2) ∧ c.cell? ⟨g', (m - 1) * 6 + 2, none⟩ = some (.bool q3) ∧ c.cell? ⟨g', (m - 1) * 6 + 3, none⟩ = some (.bool q4) ∧ c.cell? ⟨g', (m - 1) * 6 + 4, none⟩ = some (.bool q5) ∧ c.cell? ⟨g', (m - 1) * 6 + 5, none⟩ = some (.int .i64 q6)) (by kernel_rfl) ?_ (fun hHeld => ?_)
        · exact ⟨by simp, by simp, by simp, by simp, by simp, by simp, (World.cell?_alloc_lt _ _ _ (by exact g2')).trans x0, (World.cell?_alloc_lt _ _ _ (by exact g2')).trans x1, (World.cell?_alloc_lt _ _ _ (by exact g2')).trans x2, (World.cell?_alloc_lt _ _ _ (by exact g2')).trans x3, (World.cell?_alloc_lt _ _ _ (by exact g2')).trans x4, (World.cell?_alloc_lt _ _ _ (by exact g2')).trans x5⟩
        refine wpAnyH_take (i := 0) (oi := ⟨some 36, _, _, _, _, none⟩) (v := ?_) rfl (by kernel_rfl) (by kernel_rfl) (by kernel_rfl) (fun _ _ _ h => h) (Or.inl ⟨by rfl, ?_⟩) (by assumption) ?_
        rotate_left
        · intro w hSw; (try dsimp only at hSw); go_simp; (try with_reducible rfl)
        try simp only [Act.put, List.setIfInBounds_toArray, List.set_cons_zero, List.set_cons_succ]
        refine wpAnyH_take (i := 1) (oi := ⟨some 37, _, _, _, _, none⟩) (v := .bool true) rfl (by kernel_rfl) (by kernel_rfl) (by kernel_rfl) (fun _ _ _ h => h) (Or.inl ⟨by rfl, ?_⟩) (by assumption) ?_
        · intro w hSw; (try dsimp only at hSw); go_simp; (try simp); (try omega)
        try simp only [Act.put, List.setIfInBounds_toArray, List.set_cons_zero, List.set_cons_succ]
        refine wpAnyH_take (i := 2) (oi := ⟨some 38, _, _, _, _, none⟩) (v := ?_) rfl (by kernel_rfl) (by kernel_rfl) (by kernel_rfl) (fun _ _ _ h => h) (Or.inl ⟨by rfl, ?_⟩) (by assumption) ?_
        rotate_left
        · intro w hSw; (try dsimp only at hSw); go_simp; (try with_reducible rfl)
        try simp only [Act.put, List.setIfInBounds_toArray, List.set_cons_zero, List.set_cons_succ]
        refine wpAnyH_take (i := 3) (oi := ⟨some 39, _, _, _, _, some (2, true)⟩) (v := ?_) rfl (by kernel_rfl) (by kernel_rfl) (by kernel_rfl) (fun _ _ _ h => h) (Or.inl ⟨by rfl, ?_⟩) (by assumption) ?_
        rotate_left
        · intro w hSw; (try dsimp only at hSw); go_simp; (try with_reducible rfl)
        try simp only [Act.put, List.setIfInBounds_toArray, List.set_cons_zero, List.set_cons_succ]
        refine wpAnyH_take (i := 4) (oi := ⟨some 40, _, _, _, _, some (2, true)⟩) (v := ?_) rfl (by kernel_rfl) (by kernel_rfl) (by kernel_rfl) (fun _ _ _ h => h) (Or.inl ⟨by rfl, ?_⟩) (by assumption) ?_
        rotate_left
        · intro w hSw; (try dsimp only at hSw); go_simp; (try with_reducible rfl)
        try simp only [Act.put, List.setIfInBounds_toArray, List.set_cons_zero, List.set_cons_succ]
        refine wpAnyH_take (i := 5) (oi := ⟨some 41, _, _, _, _, some (2, true)⟩) (v := .int .i64 ((m : Int) - 1)) rfl (by kernel_rfl) (by kernel_rfl) (by kernel_rfl) (fun _ _ _ h => h) (Or.inl ⟨by rfl, ?_⟩) (by assumption) ?_
        · intro w hSw; (try dsimp only at hSw); go_simp; (try simp); (try (simp only [IntKind.wrap_i64])); (try omega)
        try simp only [Act.put, List.setIfInBounds_toArray, List.set_cons_zero, List.set_cons_succ]
        refine wpAnyH_take (i := 6) (oi := ⟨some 42, _, _, _, _, some (2, true)⟩) (v := (.pointer (some ⟨g', (m - 1) * 6, none⟩))) rfl (by kernel_rfl) (by kernel_rfl) (by kernel_rfl) (fun _ _ _ h => h) (Or.inl ⟨by rfl, ?_⟩) (by assumption) ?_
        · intro w hSw; (try dsimp only at hSw); go_simp; (try simp); (try omega)
        try simp only [Act.put, List.setIfInBounds_toArray, List.set_cons_zero, List.set_cons_succ]
        refine wpAnyH_take (i := 7) (oi := ⟨some 43, _, _, _, _, some (2, true)⟩) (v := .agg #[.int .i64 q1, .int .i64 q2, .bool q3, .bool q4, .bool q5, .int .i64 q6]) rfl (by kernel_rfl) (by kernel_rfl) (by kernel_rfl) (fun _ _ _ h => h) (Or.inl ⟨by rfl, ?_⟩) (by assumption) ?_
        · intro w hSw; (try dsimp only at hSw); go_simp; (try simp [hSw])
        try simp only [Act.put, List.setIfInBounds_toArray, List.set_cons_zero, List.set_cons_succ]
        refine wpAnyH_take (i := 8) (oi := ⟨some 44, _, _, _, _, some (2, true)⟩) (v := .agg #[.int .i64 r1, .int .i64 r2, .bool r3, .bool r4, .bool r5, .int .i64 r6]) rfl (by kernel_rfl) (by kernel_rfl) (by kernel_rfl) (fun _ _ _ h => h) (Or.inl ⟨by rfl, ?_⟩) (by assumption) ?_
        · intro w hSw; (try dsimp only at hSw); go_simp; (try simp [hSw])
        try simp only [Act.put, List.setIfInBounds_toArray, List.set_cons_zero, List.set_cons_succ]
        have ID : Hid (IsL (wr.alloc (.cells #[.int .i64 r1, .int .i64 r2, .bool r3, .bool r4, .bool r5, .int .i64 r6] 46)).drew base (some ⟨g', 0, none⟩) L) := hI.out.below (below_drew (Go.Joins.below_alloc1 _ _))
        have BD : Hid (Below w.heap.size w (wr.alloc (.cells #[.int .i64 r1, .int .i64 r2, .bool r3, .bool r4, .bool r5, .int .i64 r6] 46)).drew) := below_drew (below_new hb.out _)
        have lD : wr.heap.size < (wr.alloc (.cells #[.int .i64 r1, .int .i64 r2, .bool r3, .bool r4, .bool r5, .int .i64 r6] 46)).drew.heap.size := by show _ < (World.alloc _ _).heap.size; simp
        clear hI hb y0 y1 y2 y3 y4 y5 x0 x1 x2 x3 x4 x5
        generalize (wr.alloc (.cells #[.int .i64 r1, .int .i64 r2, .bool r3, .bool r4, .bool r5, .int .i64 r6] 46)).drew = U at ID BD lD hHeld ⊢
        refine wpAnyH_ready (rs := [9]) (by kernel_rfl) (by simp) ?_
        refine AllReadyH.cons (o := ⟨some 45, _, _, _, _, some (2, true)⟩) rfl (fun K hK => ?_) AllReadyH.nil
        go_simp
        go_wp2_with (go_at_call 52; refine (MJ'.out _).mono ?_; rintro e u3 ⟨rfl, hb3⟩)
        have I3 : Hid (IsL u3 base (some ⟨g', 0, none⟩) L) := ID.out.below hb3
        have B3 : Hid (Below w.heap.size w u3) := below_then BD.out hb3
        have l3 : wr.heap.size < u3.heap.size := Nat.lt_of_lt_of_le lD hb3.size
        obtain ⟨i0, i1, i2, i3, i4, i5, i6, i7, i8, i9, i10, i11⟩ := hHeld
        have hHeld3 : u3.cell? ⟨wr.heap.size, 1, none⟩ = some (.int .i64 r2) := (hb3.cell (p := ⟨wr.heap.size, 1, none⟩) lD).trans i1
        refine hK.out _ _ ⟨(hb3.cell (p := ⟨_, _, none⟩) (lD)).trans i0, (hb3.cell (p := ⟨_, _, none⟩) (lD)).trans i1, (hb3.cell (p := ⟨_, _, none⟩) (lD)).trans i2, (hb3.cell (p := ⟨_, _, none⟩) (lD)).trans i3, (hb3.cell (p := ⟨_, _, none⟩) (lD)).trans i4, (hb3.cell (p := ⟨_, _, none⟩) (lD)).trans i5, (hb3.cell (p := ⟨_, _, none⟩) ((Nat.lt_trans g2' lD))).trans i6, (hb3.cell (p := ⟨_, _, none⟩) ((Nat.lt_trans g2' lD))).trans i7, (hb3.cell (p := ⟨_, _, none⟩) ((Nat.lt_trans g2' lD))).trans i8, (hb3.cell (p := ⟨_, _, none⟩) ((Nat.lt_trans g2' lD))).trans i9, (hb3.cell (p := ⟨_, _, none⟩) ((Nat.lt_trans g2' lD))).trans i10, (hb3.cell (p := ⟨_, _, none⟩) ((Nat.lt_trans g2' lD))).trans i11⟩ (fun hHeld => ?_)
        clear hK K i0 i1 i2 i3 i4 i5 i6 i7 i8 i9 i10 i11 hb3 ID BD lD
        try simp only [Act.put, List.setIfInBounds_toArray, List.set_cons_zero, List.set_cons_succ]
        refine wpAnyH_take (i := 10) (oi := ⟨some 46, _, _, _, _, none⟩) (v := ?_) rfl (by kernel_rfl) (by kernel_rfl) (by kernel_rfl) (fun _ _ _ h => h) (Or.inl ⟨by rfl, ?_⟩) (by assumption) ?_
        rotate_left
        · intro w hSw; (try dsimp only at hSw); go_simp; (try with_reducible rfl)
        try simp only [Act.put, List.setIfInBounds_toArray, List.set_cons_zero, List.set_cons_succ]
        clear hHeld
        refine wpAnyH_done (by kernel_rfl) ?_ _
        refine NoPanic.normal ?_
        cases jn
        · have N3 : Hid (∀ j, j < m + 1 → okAt L j = true) := YES.out (by rw [OK2.out]; rfl)
          have cN : Hid (u3.cell? ⟨wr.heap.size, 1, none⟩ = some (.int .i64 r2)) := hHeld3
          have x1' := cN.out
          go_wp2_with fail
          go_roundw
          case rel => exact ⟨m + 1, r2, by omega, rfl, by go_num, EN.out.symm, N3, I3.out, B3.out⟩
          case measure => simp [intOf]; omega
        · obtain rfl : z = false := NO.out (by rw [OK2.out]; rfl)
          go_wp2_with fail
          go_ret
          exact ⟨rfl, B3.out⟩
    · obtain rfl : m = L.length := by omega
      obtain rfl : z = true := by rw [ZA.out]; exact (allB_iff _ _).2 hG.out
      go_wp2_with fail
      go_ret
      exact ⟨rfl, hb.out⟩
end Go.Proofs.YtkiclbnbnjbcaabDoor.Re
namespace Go.Proofs.YtkiclbnbnjbcaabDoor.Re
open Go.ChangeShapes Go.WideShapes Go.ChangeAt Go.RowKit Go.Maps
set_option linter.unusedSimpArgs false
set_option linter.unusedVariables false
set_option maxRecDepth 8000

/-- how many pages of a range a region has -/
def Rg.len (r : Rg) (f t : Int) : Int := if max r.fr f < min r.tt t then min r.tt t - max r.fr f else 0
def cntR (f t : Int) : List Rg → Int
  | [] => 0
  | r :: l => r.len f t + cntR f t l
theorem cntR_append (f t : Int) (k : List Rg) : ∀ l, cntR f t (l ++ k) = cntR f t l + cntR f t k
  | [] => by show cntR f t k = 0 + _; omega
  | a :: l => by rw [List.cons_append, cntR, cntR, cntR_append f t k l]; omega
theorem takeR_next (B : List Rg) (m : Nat) (h : m < B.length) : B.take (m + 1) = B.take m ++ [B.getD m Rg.zero] := by
  rw [List.take_add_one, List.getElem?_eq_getElem h]
  have : B.getD m Rg.zero = B[m] := by rw [List.getD, List.getElem?_eq_getElem h]; rfl
  rw [this]; rfl
theorem cntR_take (f t : Int) (L : List Rg) (m : Nat) (h : m < L.length) : cntR f t (L.take (m + 1)) = cntR f t (L.take m) + (L.getD m Rg.zero).len f t := by
  rw [takeR_next L m h, cntR_append]
  show _ + (_ + 0) = _
  omega
/-- numbers that fit -/
def NumL (L : List Rg) : Prop := ∀ k, k < L.length → -2199023255552 ≤ (L.getD k Rg.zero).fr ∧ (L.getD k Rg.zero).tt ≤ 2199023255552
set_option maxHeartbeats 2000000 in
theorem count_any (base : Nat) (p : Option Addr) (c : Nat) (L : List Rg) (hL : L.length ≤ 100) (hN : NumL L) (qf qt : Int) (w : World) (h : IsL w base p L) :
    Calls Tryd.prog 17 #[.slice p L.length c, rgV qf qt] w fun e w' => e = .returned (.int .i64 (cntR qf qt L)) ∧ Below w.heap.size w w' := by
  obtain ⟨z, hz⟩ : ∃ z, cntR qf qt L = z := ⟨_, rfl⟩
  rw [hz]
  have HZ : Hid (cntR qf qt L = z) := hz
  have HI : Hid (IsL w base p L) := h
  have HN : Hid (NumL L) := hN
  have CM : Hid (∀ (a1 a2 : Int) (W : World), Calls Tryd.prog 41 #[rgV a1 a2, rgV qf qt] W fun e w' => e = .returned (rgV (max a1 qf) (min a2 qt)) ∧ Below W.heap.size W w') := fun a1 a2 W => common_any a1 a2 qf qt W
  clear hz h hN
  go_enter Tryd.func17, Tryd.ntmps17
  go_wp2_with fail
  go_loopw [5, 11] (fun y x W => ∃ (m : Nat) (s : Int), m ≤ L.length ∧ y = .int .i64 s ∧ x = .int .i64 m ∧ 0 ≤ s ∧ s ≤ (m : Int) * 4398046511104 ∧ Hid (IsL W base p L) ∧ Hid (Below w.heap.size w W) ∧ Hid (W.cell? ⟨w.heap.size, 0, none⟩ = some (.int .i64 qf) ∧ W.cell? ⟨w.heap.size, 1, none⟩ = some (.int .i64 qt) ∧ w.heap.size < W.heap.size) ∧ Hid (s = cntR qf qt (L.take m))) (fun _ x _ => L.length - (intOf x).toNat)
  case atStart => exact ⟨0, 0, by omega, rfl, rfl, by omega, by omega, HI.out.below (Go.Joins.below_alloc1 _ _), Go.Joins.below_alloc1 _ _, ⟨by simp, by simp, by simp⟩, rfl⟩
  case round =>
    obtain ⟨m, s, hm, rfl, rfl, s0, s1, hI, hb, hP, hS⟩ := hrel
    by_cases hlm : m < L.length
    · have hd : decide ((m : Int) < (L.length : Int)) = true := by simp; omega
      obtain ⟨g, rfl, g1, g2, gc⟩ := hI.out m hlm
      have NX : Hid (cntR qf qt (L.take (m + 1)) = s + (L.getD m Rg.zero).len qf qt) := by
        show _ = _
        rw [cntR_take qf qt L m hlm, ← hS.out]
      have nm := HN.out m hlm
      generalize L.getD m Rg.zero = rr at gc NX nm
      obtain ⟨r1, r2, r3, r4, r5, r6⟩ := rr
      simp only at nm
      obtain ⟨n1, n2⟩ := nm
      unfold Rg.len at NX
      simp only at NX
      have y0 : wr.cell? ⟨g, m * 6, none⟩ = some (.int .i64 r1) := gc 0 _ rfl
      have y1 : wr.cell? ⟨g, m * 6 + 1, none⟩ = some (.int .i64 r2) := gc 1 _ rfl
      have y2 : wr.cell? ⟨g, m * 6 + 2, none⟩ = some (.bool r3) := gc 2 _ rfl
      have y3 : wr.cell? ⟨g, m * 6 + 3, none⟩ = some (.bool r4) := gc 3 _ rfl
      have y4 : wr.cell? ⟨g, m * 6 + 4, none⟩ = some (.bool r5) := gc 4 _ rfl
      have y5 : wr.cell? ⟨g, m * 6 + 5, none⟩ = some (.int .i64 r6) := gc 5 _ rfl
      clear gc
      have CR : Hid _ := CM.out r1 r2
      obtain ⟨mf, hmf⟩ : ∃ x, max r1 qf = x := ⟨_, rfl⟩
      obtain ⟨mt, hmt⟩ : ∃ x, min r2 qt = x := ⟨_, rfl⟩
      rw [hmf, hmt] at CR NX
      have k1 : r1 ≤ mf := by omega
      have k2 : mt ≤ r2 := by omega
      clear hmf hmt
      obtain ⟨b0, b1, lw⟩ := hP.out
      go_wp2_with fail
      refine (CR.out _).mono ?_
      rintro e u1 ⟨rfl, hb1⟩
      have BW : Hid (Below wr.heap.size wr u1) := below_then (Go.Joins.below_alloc1 _ _) hb1
      have I1 : Hid (IsL (u1.alloc (.cells #[.int .i64 mf, .int .i64 mt] 42)) base (some ⟨g, 0, none⟩) L) := (hI.out.below BW.out).below (Go.Joins.below_alloc1 _ _)
      have B1 : Hid (Below w.heap.size w (u1.alloc (.cells #[.int .i64 mf, .int .i64 mt] 42))) := below_new (below_then hb.out BW.out) _
      have P1 : Hid ((u1.alloc (.cells #[.int .i64 mf, .int .i64 mt] 42)).cell? ⟨w.heap.size, 0, none⟩ = some (.int .i64 qf) ∧ (u1.alloc (.cells #[.int .i64 mf, .int .i64 mt] 42)).cell? ⟨w.heap.size, 1, none⟩ = some (.int .i64 qt) ∧ w.heap.size < (u1.alloc (.cells #[.int .i64 mf, .int .i64 mt] 42)).heap.size) := by
        have l1 : w.heap.size < u1.heap.size := Nat.lt_of_lt_of_le lw BW.out.size
        exact ⟨(World.cell?_alloc_lt _ _ _ (by exact l1)).trans ((BW.out.cell (p := ⟨w.heap.size, 0, none⟩) lw).trans b0), (World.cell?_alloc_lt _ _ _ (by exact l1)).trans ((BW.out.cell (p := ⟨w.heap.size, 1, none⟩) lw).trans b1), by rw [World.size_alloc]; omega⟩
      clear hb1 hI hb hP b0 b1 y0 y1 y2 y3 y4 y5 BW
      by_cases cc : mf < mt
      · have ed : decide (mf < mt) = true := by simp [cc]
        have N2 : Hid (s + (mt - mf) = cntR qf qt (L.take (m + 1))) := by
          have := NX.out
          rw [if_pos cc] at this; exact this.symm
        clear NX
        go_wp2_with fail
        go_roundw
        case rel => exact ⟨m + 1, s + (mt - mf), by omega, by go_num, by go_num, by omega, by omega, I1, B1, P1, N2⟩
        case measure => simp [intOf]; omega
      · have ed : decide (mf < mt) = false := by simp [cc]
        have N2 : Hid (s = cntR qf qt (L.take (m + 1))) := by
          have := NX.out
          rw [if_neg cc, Int.add_zero] at this; exact this.symm
        clear NX
        go_wp2_with fail
        go_roundw
        case rel => exact ⟨m + 1, s, by omega, rfl, by go_num, by omega, by omega, I1, B1, P1, N2⟩
        case measure => simp [intOf]; omega
    · obtain rfl : m = L.length := by omega
      have ez : s = z := by
        have h1 := hS.out
        rw [List.take_length, HZ.out] at h1; exact h1
      subst ez
      go_wp2_with fail
      go_ret
      exact ⟨rfl, hb.out⟩
set_option maxHeartbeats 1000000 in
theorem few_yes (p : Option Addr) (n c : Nat) (h : n ≤ 64) (w : World) : Calls Tryd.prog 28 #[.slice p n c] w fun e w' => e = .returned (.tuple #[.slice p n c, .int .i64 0]) ∧ Below w.heap.size w w' := by
  have hd : decide (64 < (n : Int)) = false := by simp; omega
  go_enter Tryd.func28, Tryd.ntmps28
  go_wp2_with fail
  go_returns
  exact ⟨rfl, Below.refl _ _⟩
set_option maxHeartbeats 1000000 in
theorem few_no (p : Option Addr) (n c : Nat) (h : 64 < n) (hn : n ≤ 1000) (w : World) : Calls Tryd.prog 28 #[.slice p n c] w fun e w' => e = .returned (.tuple #[.slice none 0 0, .int .i64 4]) ∧ Below w.heap.size w w' := by
  have hd : decide (64 < (n : Int)) = true := by simp; omega
  go_enter Tryd.func28, Tryd.ntmps28
  go_wp2_with fail
  go_returns
  exact ⟨rfl, Below.refl _ _⟩
def checkN (L : List Rg) (f t : Int) : Int := if rightB f t = true then (if goodB L = true then 0 else 3) else 1
set_option maxHeartbeats 1000000 in
theorem check_any (base : Nat) (p : Option Addr) (c : Nat) (L : List Rg) (hL : L.length ≤ 100) (f t : Int) (w : World) (h : IsL w base p L) :
    Calls Tryd.prog 26 #[.slice p L.length c, rgV f t] w fun e w' => e = .returned (.int .i64 (checkN L f t)) ∧ Below w.heap.size w w' := by
  have RA : Hid (∀ W : World, Calls Tryd.prog 50 #[rgV f t] W fun e w' => e = .returned (.bool (rightB f t)) ∧ Below W.heap.size W w') := fun W => right_any f t W
  have GA : Hid (∀ W : World, IsL W base p L → Calls Tryd.prog 51 #[.slice p L.length c] W fun e w' => e = .returned (.bool (goodB L)) ∧ Below W.heap.size W w') := fun W h => good_any base p c L hL W h
  have HI : Hid (IsL w base p L) := h
  unfold checkN
  generalize rightB f t = z1 at RA ⊢
  generalize goodB L = z2 at GA ⊢
  clear h
  generalize L.length = n at GA ⊢
  cases z1
  · rw [if_neg (by simp)]
    go_enter Tryd.func26, Tryd.ntmps26
    go_wp2_with fail
    refine (RA.out _).mono ?_
    rintro e u1 ⟨rfl, hb1⟩
    have B1 : Hid (Below w.heap.size w u1) := below_then (Go.Joins.below_alloc1 _ _) hb1
    clear hb1
    go_wp2_with fail
    go_ret
    exact ⟨rfl, B1.out⟩
  · rw [if_pos rfl]
    cases z2
    all_goals
      go_enter Tryd.func26, Tryd.ntmps26
      go_wp2_with fail
      refine (RA.out _).mono ?_
      rintro e u1 ⟨rfl, hb1⟩
      have B1 : Hid (Below w.heap.size w u1) := below_then (Go.Joins.below_alloc1 _ _) hb1
      clear hb1
      go_wp2_with fail
      refine (GA.out _ (HI.out.below B1.out)).mono ?_
      rintro e u2 ⟨rfl, hb2⟩
      have B2 : Hid (Below w.heap.size w u2) := below_then B1.out hb2
      clear hb2
      go_wp2_with fail
      go_ret
      exact ⟨rfl, B2.out⟩
end Go.Proofs.YtkiclbnbnjbcaabDoor.Re
namespace Go.Proofs.YtkiclbnbnjbcaabDoor.Re
open Go.ChangeShapes Go.WideShapes Go.ChangeAt Go.RowKit Go.Maps
set_option linter.unusedSimpArgs false
set_option linter.unusedVariables false
set_option maxRecDepth 8000

def Rg.upto (r : Rg) (t : Int) : Rg := ⟨r.fr, t, r.w, r.u, r.x, r.kd⟩
theorem flat_set : ∀ (L : List Rg) (i : Nat) (t : Int), i < L.length → (L.flatMap Rg.enc).set (i * 6 + 1) (.int .i64 t) = (L.set i ((L.getD i Rg.zero).upto t)).flatMap Rg.enc
  | [], i, t, h => absurd h (Nat.not_lt_zero _)
  | r :: l, 0, t, h => by
    rw [List.flatMap_cons, List.set_cons_zero, List.flatMap_cons]
    have e : ((r :: l).getD 0 Rg.zero) = r := rfl
    rw [e, List.set_append_left _ _ (by rw [renc_len]; omega)]
    rfl
  | r :: l, i + 1, t, h => by
    rw [List.flatMap_cons, List.set_cons_succ, List.flatMap_cons]
    have e : ((r :: l).getD (i + 1) Rg.zero) = l.getD i Rg.zero := by simp [List.getD]
    rw [e, List.set_append_right _ _ (by rw [renc_len]; omega), renc_len, show (i + 1) * 6 + 1 - 6 = i * 6 + 1 by omega, flat_set l i t (by simpa using h)]
theorem OwnL.setTo {w : World} {base g cap : Nat} {L : List Rg} (h : OwnL w base (.slice (some ⟨g, 0, none⟩) L.length cap) L) (i : Nat) (hi : i < L.length) (t : Int) : OwnL (w.setCell ⟨g, i * 6 + 1, none⟩ (.int .i64 t)) base (.slice (some ⟨g, 0, none⟩) L.length cap) (L.set i ((L.getD i Rg.zero).upto t)) := by
  have := (World.ownsRow.stored h (i * 6 + 1) (.int .i64 t)).1
  unfold OwnL
  rw [flat_set L i t hi] at this
  rw [List.length_set]; exact this
theorem OwnL.cell {w : World} {base g cap : Nat} {L : List Rg} (h : OwnL w base (.slice (some ⟨g, 0, none⟩) L.length cap) L) (i : Nat) (hi : i < L.length) (j : Nat) (x : Value) (hj : j < 6) (hx : (L.getD i Rg.zero).enc[j]? = some x) : w.cell? ⟨g, i * 6 + j, none⟩ = some x := by
  rw [World.ownsRow.cellAt h (i * 6 + j) (by omega), flatR_enc L i j hi hj, hx]
theorem OwnL.next {w : World} {base : Nat} {v : Value} {L : List Rg} {r : Rg} (h : w.ownsRow base 46 6 v (L.length + 1) (L.flatMap Rg.enc ++ r.enc)) : OwnL w base v (L ++ [r]) := by
  unfold OwnL; simpa [List.flatMap_append] using h
theorem OwnL.below {w w' : World} {base : Nat} {v : Value} {L : List Rg} (h : OwnL w base v L) (hb : Below w.heap.size w w') : OwnL w' base v L := own_keep h hb
def lastR (L : List Rg) : Rg := L.getD (L.length - 1) Rg.zero
def withL (L : List Rg) (r : Rg) : List Rg := if r.tt ≤ r.fr then L else if 0 < L.length ∧ (lastR L).joins r = true then L.set (L.length - 1) ((lastR L).upto r.tt) else L ++ [r]
theorem withL_len (L : List Rg) (r : Rg) : (withL L r).length ≤ L.length + 1 := by
  unfold withL
  split
  · omega
  · split
    · rw [List.length_set]; omega
    · rw [List.length_append]; simp
/-- what a call that is handed a list in the making leaves of the rest -/
def WithK (w w' : World) (v v' : Value) : Prop := w.grownBy w' v.ownBlock ∧ (v'.ownBlock = v.ownBlock ∨ ∃ j, w.heap.size ≤ j ∧ v'.ownBlock = some j)
theorem WithK.refl {w w' : World} (v : Value) (h : Below w.heap.size w w') : WithK w w' v v := ⟨grown_of_below h _, Or.inl rfl⟩
theorem news1 (u : World) (C : Array Value) (t : TypeId) : ∀ j x, C.toList[j]? = some x → (u.alloc (.cells C t)).cell? ((⟨u.heap.size, 0, none⟩ : Addr).add j) = some x := by
  intro j x hx
  rw [Addr.add_mid, Nat.zero_add]
  exact (Go.Joins.cell_of_block (own1 u (.cells C t)) j).trans (by simpa using hx)
theorem grown_then {a b c : World} {r : Option Nat} (h : Below a.heap.size a b) (k : b.grownBy c r) : a.grownBy c r := grown_trans (grown_of_below h r) k
set_option maxHeartbeats 4000000 in
theorem with_any (base : Nat) (v : Value) (L : List Rg) (hL : L.length ≤ 1000) (r : Rg) (w : World) (hw : base ≤ w.heap.size) (h : OwnL w base v L) :
    Calls Tryd.prog 27 #[v, r.val] w fun e w' => ∃ v', e = .returned v' ∧ OwnL w' base v' (withL L r) ∧ WithK w w' v v' := by
  obtain ⟨i0, hi, hz0, hz1, hz2⟩ := info5 rg_info5
  obtain ⟨M, hM⟩ : ∃ M, withL L r = M := ⟨_, rfl⟩
  rw [hM]
  have HM : Hid (withL L r = M) := hM
  have HO : Hid (OwnL w base v L) := h
  have MK : Hid (∀ (a b : Rg) (W : World), Calls Tryd.prog 52 #[a.val, b.val] W fun e w' => e = .returned (.bool (a.joins b)) ∧ Below W.heap.size W w') := make_any
  clear hM
  by_cases c0 : r.tt ≤ r.fr
  · have em : M = L := by rw [← HM.out]; unfold withL; rw [if_pos c0]
    subst em
    obtain ⟨r1, r2, r3, r4, r5, r6⟩ := r
    simp only at c0
    have d0 : decide (r2 ≤ r1) = true := by simp [c0]
    clear HM h
    have O1 : Hid (OwnL (w.alloc (.cells #[.int .i64 r1, .int .i64 r2, .bool r3, .bool r4, .bool r5, .int .i64 r6] 46)) base v M) := OwnL.below HO.out (Go.Joins.below_alloc1 _ _)
    go_enter Tryd.func27, Tryd.ntmps27
    go_wp2_with fail
    go_ret
    exact ⟨v, rfl, O1.out, WithK.refl v (Go.Joins.below_alloc1 _ _)⟩
  have d0 : decide (r.tt ≤ r.fr) = false := by simp; omega
  rcases Go.Joins.ownsRow_forms h with ⟨ev, en⟩ | ⟨g, cap, ev⟩
  · have EW : Hid (M = L ++ [r]) := by show _ = _; rw [← HM.out]; unfold withL; rw [if_neg c0, if_neg (fun q => by omega)]
    have eLn : L.length = 0 := en
    obtain ⟨r1, r2, r3, r4, r5, r6⟩ := r
    simp only at d0
    clear c0 HM h en
    subst ev
    go_enter Tryd.func27, Tryd.ntmps27
    go_wp2_with fail
    refine wp_region_noPanic ?_
    refine wp_region_held_drew (S := fun c => c.cell? ⟨w.heap.size, 0, none⟩ = some (.int .i64 r1) ∧ c.cell? ⟨w.heap.size, 1, none⟩ = some (.int .i64 r2) ∧ c.cell? ⟨w.heap.size, 2, none⟩ = some (.bool r3) ∧ c.cell? ⟨w.heap.size, 3, none⟩ = some (.bool r4) ∧ c.cell? ⟨w.heap.size, 4, none⟩ = some (.bool r5) ∧ c.cell? ⟨w.heap.size, 5, none⟩ = some (.int .i64 r6)) (by kernel_rfl) ?_ (fun hHeld => ?_)
    · exact ⟨by simp, by simp, by simp, by simp, by simp, by simp⟩
    refine wpAnyH_take (i := 0) (oi := ⟨some 17, _, _, _, _, none⟩) (v := ?_) rfl (by kernel_rfl) (by kernel_rfl) (by kernel_rfl) (fun _ _ _ h => h) (Or.inl ⟨by rfl, ?_⟩) (by assumption) ?_
    rotate_left
    · intro w hSw; (try dsimp only at hSw); go_simp; (try with_reducible rfl)
    try simp only [Act.put, List.setIfInBounds_toArray, List.set_cons_zero, List.set_cons_succ]
    refine wpAnyH_take (i := 1) (oi := ⟨some 18, _, _, _, _, none⟩) (v := .bool false) rfl (by kernel_rfl) (by kernel_rfl) (by kernel_rfl) (fun _ _ _ h => h) (Or.inl ⟨by rfl, ?_⟩) (by assumption) ?_
    · intro w hSw; (try dsimp only at hSw); go_simp; (try simp); (try omega)
    try simp only [Act.put, List.setIfInBounds_toArray, List.set_cons_zero, List.set_cons_succ]
    refine wpAnyH_take (i := 2) (oi := ⟨some 19, _, _, _, _, none⟩) (v := ?_) rfl (by kernel_rfl) (by kernel_rfl) (by kernel_rfl) (fun _ _ _ h => h) (Or.inl ⟨by rfl, ?_⟩) (by assumption) ?_
    rotate_left
    · intro w hSw; (try dsimp only at hSw); go_simp; (try with_reducible rfl)
    try simp only [Act.put, List.setIfInBounds_toArray, List.set_cons_zero, List.set_cons_succ]
    refine wpAnyH_take (i := 3) (oi := ⟨some 20, _, _, _, _, some (2, true)⟩) (v := undef) rfl (by kernel_rfl) (by kernel_rfl) (by kernel_rfl) (fun _ _ _ h => h) (Or.inr ⟨by rfl, rfl⟩) (by assumption) ?_
    try simp only [Act.put, List.setIfInBounds_toArray, List.set_cons_zero, List.set_cons_succ]
    refine wpAnyH_take (i := 4) (oi := ⟨some 21, _, _, _, _, some (2, true)⟩) (v := undef) rfl (by kernel_rfl) (by kernel_rfl) (by kernel_rfl) (fun _ _ _ h => h) (Or.inr ⟨by rfl, rfl⟩) (by assumption) ?_
    try simp only [Act.put, List.setIfInBounds_toArray, List.set_cons_zero, List.set_cons_succ]
    refine wpAnyH_take (i := 5) (oi := ⟨some 22, _, _, _, _, some (2, true)⟩) (v := undef) rfl (by kernel_rfl) (by kernel_rfl) (by kernel_rfl) (fun _ _ _ h => h) (Or.inr ⟨by rfl, rfl⟩) (by assumption) ?_
    try simp only [Act.put, List.setIfInBounds_toArray, List.set_cons_zero, List.set_cons_succ]
    refine wpAnyH_take (i := 6) (oi := ⟨some 23, _, _, _, _, some (2, true)⟩) (v := undef) rfl (by kernel_rfl) (by kernel_rfl) (by kernel_rfl) (fun _ _ _ h => h) (Or.inr ⟨by rfl, rfl⟩) (by assumption) ?_
    try simp only [Act.put, List.setIfInBounds_toArray, List.set_cons_zero, List.set_cons_succ]
    refine wpAnyH_take (i := 7) (oi := ⟨some 24, _, _, _, _, some (2, true)⟩) (v := undef) rfl (by kernel_rfl) (by kernel_rfl) (by kernel_rfl) (fun _ _ _ h => h) (Or.inr ⟨by rfl, rfl⟩) (by assumption) ?_
    try simp only [Act.put, List.setIfInBounds_toArray, List.set_cons_zero, List.set_cons_succ]
    refine wpAnyH_take (i := 8) (oi := ⟨some 25, _, _, _, _, some (2, true)⟩) (v := undef) rfl (by kernel_rfl) (by kernel_rfl) (by kernel_rfl) (fun _ _ _ h => h) (Or.inr ⟨by rfl, rfl⟩) (by assumption) ?_
    try simp only [Act.put, List.setIfInBounds_toArray, List.set_cons_zero, List.set_cons_succ]
    refine wpAnyH_take (i := 9) (oi := ⟨some 26, _, _, _, _, none⟩) (v := ?_) rfl (by kernel_rfl) (by kernel_rfl) (by kernel_rfl) (fun _ _ _ h => h) (Or.inl ⟨by rfl, ?_⟩) (by assumption) ?_
    rotate_left
    · intro w hSw; (try dsimp only at hSw); go_simp; (try with_reducible rfl)
    try simp only [Act.put, List.setIfInBounds_toArray, List.set_cons_zero, List.set_cons_succ]
    refine wpAnyH_done (by kernel_rfl) ?_ _
    refine NoPanic.normal ?_
    have OU : Hid (OwnL (w.alloc (.cells #[.int .i64 r1, .int .i64 r2, .bool r3, .bool r4, .bool r5, .int .i64 r6] 46)).drew base (.slice none 0 0) L) := OwnL.below HO.out (below_drew (Go.Joins.below_alloc1 _ _))
    have BU : Hid (Below w.heap.size w (w.alloc (.cells #[.int .i64 r1, .int .i64 r2, .bool r3, .bool r4, .bool r5, .int .i64 r6] 46)).drew) := below_drew (Go.Joins.below_alloc1 _ _)
    have lU : w.heap.size < (w.alloc (.cells #[.int .i64 r1, .int .i64 r2, .bool r3, .bool r4, .bool r5, .int .i64 r6] 46)).drew.heap.size := by show _ < (World.alloc _ _).heap.size; simp
    generalize (w.alloc (.cells #[.int .i64 r1, .int .i64 r2, .bool r3, .bool r4, .bool r5, .int .i64 r6] 46)).drew = U at OU BU lU hHeld ⊢
    obtain ⟨x0, x1, x2, x3, x4, x5⟩ := hHeld
    have OW : Hid ((U.alloc (.cells #[.int .i64 r1, .int .i64 r2, .bool r3, .bool r4, .bool r5, .int .i64 r6] 46)).ownsRow base 46 6 (.slice none 0 0) L.length (L.flatMap Rg.enc)) := own_keep OU.out (Go.Joins.below_alloc1 _ _)
    have NW : Hid (∀ j x, ([.int .i64 r1, .int .i64 r2, .bool r3, .bool r4, .bool r5, .int .i64 r6] : List Value)[j]? = some x → (U.alloc (.cells #[.int .i64 r1, .int .i64 r2, .bool r3, .bool r4, .bool r5, .int .i64 r6] 46)).cell? ((⟨U.heap.size, 0, none⟩ : Addr).add j) = some x) := news1 U #[.int .i64 r1, .int .i64 r2, .bool r3, .bool r4, .bool r5, .int .i64 r6] 46
    have ON : Hid (∀ x ∈ ([.int .i64 r1, .int .i64 r2, .bool r3, .bool r4, .bool r5, .int .i64 r6] : List Value), x.oneCell' = true) := by show ∀ x ∈ ([.int .i64 r1, .int .i64 r2, .bool r3, .bool r4, .bool r5, .int .i64 r6] : List Value), x.oneCell' = true; simp [Value.oneCell']
    have HZ : Hid (base ≤ (U.alloc (.cells #[.int .i64 r1, .int .i64 r2, .bool r3, .bool r4, .bool r5, .int .i64 r6] 46)).heap.size) := by show _ ≤ _; rw [World.size_alloc]; have := BU.out.size; omega
    have MX : Hid (L.length + 1 ≤ maxLen) := by show _ ≤ _; unfold maxLen; omega
    have BY : Hid ((L.length + 1) * 32 ≤ 140737488355328) := by show _ ≤ _; omega
    have BA : Hid (Below w.heap.size w (U.alloc (.cells #[.int .i64 r1, .int .i64 r2, .bool r3, .bool r4, .bool r5, .int .i64 r6] 46))) := below_new BU.out _
    have SZ : Hid (w.heap.size ≤ (U.alloc (.cells #[.int .i64 r1, .int .i64 r2, .bool r3, .bool r4, .bool r5, .int .i64 r6] 46)).heap.size) := BA.out.size
    generalize hN : L.length = nL at OW MX BY ⊢
    go_wp2_with (at_builtin; refine wpList_append_own_at _ rfl _ _ 36 rfl base 46 i0 zrg 6 32 Tryd.underlying36 hi hz0 hz1 hz2 rfl (by decide) (.slice none 0 0) nL (L.flatMap Rg.enc) rfl OW.out ⟨U.heap.size, 0, none⟩ 1 1 ([.int .i64 r1, .int .i64 r2, .bool r3, .bool r4, .bool r5, .int .i64 r6] : List Value) rfl rfl NW.out ON.out MX.out BY.out HZ.out ?_; intro v1 a0 hown hg hnil hblk; have O1 : Hid (a0.ownsRow base 46 6 v1 (nL + 1) (L.flatMap Rg.enc ++ [.int .i64 r1, .int .i64 r2, .bool r3, .bool r4, .bool r5, .int .i64 r6])) := hown; have K1 : Hid (WithK w a0 (.slice none 0 0) v1) := ⟨grown_then BA.out hg, hblk.elim Or.inl (fun e => Or.inr ⟨_, SZ.out, e⟩)⟩; clear hown hg hnil hblk OW NW ON HZ MX BY BA SZ)
    go_wp2_with fail
    go_ret
    exact ⟨v1, rfl, by rw [EW.out]; exact OwnL.next (r := ⟨r1, r2, r3, r4, r5, r6⟩) (by rw [hN]; exact O1.out), K1.out⟩
  · subst ev
    by_cases e0 : L.length = 0
    · have EW : Hid (M = L ++ [r]) := by show _ = _; rw [← HM.out]; unfold withL; rw [if_neg c0, if_neg (fun q => by omega)]
      have eLn : L.length = 0 := e0
      obtain ⟨r1, r2, r3, r4, r5, r6⟩ := r
      simp only at d0
      clear c0 HM h e0
      have HO2 : Hid (OwnL w base (.slice (some ⟨g, 0, none⟩) 0 cap) L) := by have := HO.out; rw [eLn] at this; exact this
      clear HO
      have HO : Hid _ := HO2.out
      clear HO2
      rw [eLn]
      go_enter Tryd.func27, Tryd.ntmps27
      go_wp2_with fail
      refine wp_region_noPanic ?_
      refine wp_region_held_drew (S := fun c => c.cell? ⟨w.heap.size, 0, none⟩ = some (.int .i64 r1) ∧ c.cell? ⟨w.heap.size, 1, none⟩ = some (.int .i64 r2) ∧ c.cell? ⟨w.heap.size, 2, none⟩ = some (.bool r3) ∧ c.cell? ⟨w.heap.size, 3, none⟩ = some (.bool r4) ∧ c.cell? ⟨w.heap.size, 4, none⟩ = some (.bool r5) ∧ c.cell? ⟨w.heap.size, 5, none⟩ = some (.int .i64 r6)) (by kernel_rfl) ?_ (fun hHeld => ?_)
      · exact ⟨by simp, by simp, by simp, by simp, by simp, by simp⟩
      refine wpAnyH_take (i := 0) (oi := ⟨some 17, _, _, _, _, none⟩) (v := ?_) rfl (by kernel_rfl) (by kernel_rfl) (by kernel_rfl) (fun _ _ _ h => h) (Or.inl ⟨by rfl, ?_⟩) (by assumption) ?_
      rotate_left
      · intro w hSw; (try dsimp only at hSw); go_simp; (try with_reducible rfl)
      try simp only [Act.put, List.setIfInBounds_toArray, List.set_cons_zero, List.set_cons_succ]
      refine wpAnyH_take (i := 1) (oi := ⟨some 18, _, _, _, _, none⟩) (v := .bool false) rfl (by kernel_rfl) (by kernel_rfl) (by kernel_rfl) (fun _ _ _ h => h) (Or.inl ⟨by rfl, ?_⟩) (by assumption) ?_
      · intro w hSw; (try dsimp only at hSw); go_simp; (try simp); (try omega)
      try simp only [Act.put, List.setIfInBounds_toArray, List.set_cons_zero, List.set_cons_succ]
      refine wpAnyH_take (i := 2) (oi := ⟨some 19, _, _, _, _, none⟩) (v := ?_) rfl (by kernel_rfl) (by kernel_rfl) (by kernel_rfl) (fun _ _ _ h => h) (Or.inl ⟨by rfl, ?_⟩) (by assumption) ?_
      rotate_left
      · intro w hSw; (try dsimp only at hSw); go_simp; (try with_reducible rfl)
      try simp only [Act.put, List.setIfInBounds_toArray, List.set_cons_zero, List.set_cons_succ]
      refine wpAnyH_take (i := 3) (oi := ⟨some 20, _, _, _, _, some (2, true)⟩) (v := undef) rfl (by kernel_rfl) (by kernel_rfl) (by kernel_rfl) (fun _ _ _ h => h) (Or.inr ⟨by rfl, rfl⟩) (by assumption) ?_
      try simp only [Act.put, List.setIfInBounds_toArray, List.set_cons_zero, List.set_cons_succ]
      refine wpAnyH_take (i := 4) (oi := ⟨some 21, _, _, _, _, some (2, true)⟩) (v := undef) rfl (by kernel_rfl) (by kernel_rfl) (by kernel_rfl) (fun _ _ _ h => h) (Or.inr ⟨by rfl, rfl⟩) (by assumption) ?_
      try simp only [Act.put, List.setIfInBounds_toArray, List.set_cons_zero, List.set_cons_succ]
      refine wpAnyH_take (i := 5) (oi := ⟨some 22, _, _, _, _, some (2, true)⟩) (v := undef) rfl (by kernel_rfl) (by kernel_rfl) (by kernel_rfl) (fun _ _ _ h => h) (Or.inr ⟨by rfl, rfl⟩) (by assumption) ?_
      try simp only [Act.put, List.setIfInBounds_toArray, List.set_cons_zero, List.set_cons_succ]
      refine wpAnyH_take (i := 6) (oi := ⟨some 23, _, _, _, _, some (2, true)⟩) (v := undef) rfl (by kernel_rfl) (by kernel_rfl) (by kernel_rfl) (fun _ _ _ h => h) (Or.inr ⟨by rfl, rfl⟩) (by assumption) ?_
      try simp only [Act.put, List.setIfInBounds_toArray, List.set_cons_zero, List.set_cons_succ]
      refine wpAnyH_take (i := 7) (oi := ⟨some 24, _, _, _, _, some (2, true)⟩) (v := undef) rfl (by kernel_rfl) (by kernel_rfl) (by kernel_rfl) (fun _ _ _ h => h) (Or.inr ⟨by rfl, rfl⟩) (by assumption) ?_
      try simp only [Act.put, List.setIfInBounds_toArray, List.set_cons_zero, List.set_cons_succ]
      refine wpAnyH_take (i := 8) (oi := ⟨some 25, _, _, _, _, some (2, true)⟩) (v := undef) rfl (by kernel_rfl) (by kernel_rfl) (by kernel_rfl) (fun _ _ _ h => h) (Or.inr ⟨by rfl, rfl⟩) (by assumption) ?_
      try simp only [Act.put, List.setIfInBounds_toArray, List.set_cons_zero, List.set_cons_succ]
      refine wpAnyH_take (i := 9) (oi := ⟨some 26, _, _, _, _, none⟩) (v := ?_) rfl (by kernel_rfl) (by kernel_rfl) (by kernel_rfl) (fun _ _ _ h => h) (Or.inl ⟨by rfl, ?_⟩) (by assumption) ?_
      rotate_left
      · intro w hSw; (try dsimp only at hSw); go_simp; (try with_reducible rfl)
      try simp only [Act.put, List.setIfInBounds_toArray, List.set_cons_zero, List.set_cons_succ]
      refine wpAnyH_done (by kernel_rfl) ?_ _
      refine NoPanic.normal ?_
      have OU : Hid (OwnL (w.alloc (.cells #[.int .i64 r1, .int .i64 r2, .bool r3, .bool r4, .bool r5, .int .i64 r6] 46)).drew base (.slice (some ⟨g, 0, none⟩) 0 cap) L) := OwnL.below HO.out (below_drew (Go.Joins.below_alloc1 _ _))
      have BU : Hid (Below w.heap.size w (w.alloc (.cells #[.int .i64 r1, .int .i64 r2, .bool r3, .bool r4, .bool r5, .int .i64 r6] 46)).drew) := below_drew (Go.Joins.below_alloc1 _ _)
      have lU : w.heap.size < (w.alloc (.cells #[.int .i64 r1, .int .i64 r2, .bool r3, .bool r4, .bool r5, .int .i64 r6] 46)).drew.heap.size := by show _ < (World.alloc _ _).heap.size; simp
      generalize (w.alloc (.cells #[.int .i64 r1, .int .i64 r2, .bool r3, .bool r4, .bool r5, .int .i64 r6] 46)).drew = U at OU BU lU hHeld ⊢
      obtain ⟨x0, x1, x2, x3, x4, x5⟩ := hHeld
      have OW : Hid ((U.alloc (.cells #[.int .i64 r1, .int .i64 r2, .bool r3, .bool r4, .bool r5, .int .i64 r6] 46)).ownsRow base 46 6 (.slice (some ⟨g, 0, none⟩) 0 cap) L.length (L.flatMap Rg.enc)) := own_keep OU.out (Go.Joins.below_alloc1 _ _)
      have NW : Hid (∀ j x, ([.int .i64 r1, .int .i64 r2, .bool r3, .bool r4, .bool r5, .int .i64 r6] : List Value)[j]? = some x → (U.alloc (.cells #[.int .i64 r1, .int .i64 r2, .bool r3, .bool r4, .bool r5, .int .i64 r6] 46)).cell? ((⟨U.heap.size, 0, none⟩ : Addr).add j) = some x) := news1 U #[.int .i64 r1, .int .i64 r2, .bool r3, .bool r4, .bool r5, .int .i64 r6] 46
      have ON : Hid (∀ x ∈ ([.int .i64 r1, .int .i64 r2, .bool r3, .bool r4, .bool r5, .int .i64 r6] : List Value), x.oneCell' = true) := by show ∀ x ∈ ([.int .i64 r1, .int .i64 r2, .bool r3, .bool r4, .bool r5, .int .i64 r6] : List Value), x.oneCell' = true; simp [Value.oneCell']
      have HZ : Hid (base ≤ (U.alloc (.cells #[.int .i64 r1, .int .i64 r2, .bool r3, .bool r4, .bool r5, .int .i64 r6] 46)).heap.size) := by show _ ≤ _; rw [World.size_alloc]; have := BU.out.size; omega
      have MX : Hid (L.length + 1 ≤ maxLen) := by show _ ≤ _; unfold maxLen; omega
      have BY : Hid ((L.length + 1) * 32 ≤ 140737488355328) := by show _ ≤ _; omega
      have BA : Hid (Below w.heap.size w (U.alloc (.cells #[.int .i64 r1, .int .i64 r2, .bool r3, .bool r4, .bool r5, .int .i64 r6] 46))) := below_new BU.out _
      have SZ : Hid (w.heap.size ≤ (U.alloc (.cells #[.int .i64 r1, .int .i64 r2, .bool r3, .bool r4, .bool r5, .int .i64 r6] 46)).heap.size) := BA.out.size
      generalize hN : L.length = nL at OW MX BY ⊢
      go_wp2_with (at_builtin; refine wpList_append_own_at _ rfl _ _ 36 rfl base 46 i0 zrg 6 32 Tryd.underlying36 hi hz0 hz1 hz2 rfl (by decide) (.slice (some ⟨g, 0, none⟩) 0 cap) nL (L.flatMap Rg.enc) rfl OW.out ⟨U.heap.size, 0, none⟩ 1 1 ([.int .i64 r1, .int .i64 r2, .bool r3, .bool r4, .bool r5, .int .i64 r6] : List Value) rfl rfl NW.out ON.out MX.out BY.out HZ.out ?_; intro v1 a0 hown hg hnil hblk; have O1 : Hid (a0.ownsRow base 46 6 v1 (nL + 1) (L.flatMap Rg.enc ++ [.int .i64 r1, .int .i64 r2, .bool r3, .bool r4, .bool r5, .int .i64 r6])) := hown; have K1 : Hid (WithK w a0 (.slice (some ⟨g, 0, none⟩) 0 cap) v1) := ⟨grown_then BA.out hg, hblk.elim Or.inl (fun e => Or.inr ⟨_, SZ.out, e⟩)⟩; clear hown hg hnil hblk OW NW ON HZ MX BY BA SZ)
      go_wp2_with fail
      go_ret
      exact ⟨v1, rfl, by rw [EW.out]; exact OwnL.next (r := ⟨r1, r2, r3, r4, r5, r6⟩) (by rw [hN]; exact O1.out), K1.out⟩
    have n1 : 1 ≤ L.length := by omega
    have hlast : (lastR L) = L.getD (L.length - 1) Rg.zero := rfl
    have EJ : Hid ((lastR L).joins r = true → M = L.set (L.length - 1) ((lastR L).upto r.tt)) := fun q => by rw [← HM.out]; unfold withL; rw [if_neg c0, if_pos ⟨by omega, q⟩]
    have EN : Hid ((lastR L).joins r = false → M = L ++ [r]) := fun q => by rw [← HM.out]; unfold withL; rw [if_neg c0, if_neg (fun k => by rw [q] at k; simp at k)]
    have HC : Hid (∀ j x, j < 6 → (lastR L).enc[j]? = some x → w.cell? ⟨g, (L.length - 1) * 6 + j, none⟩ = some x) := fun j x hj hx => OwnL.cell HO.out (L.length - 1) (by omega) j x hj hx
    have ST : Hid (∀ (W : World) (t : Int), OwnL W base (.slice (some ⟨g, 0, none⟩) L.length cap) L → OwnL (W.setCell ⟨g, (L.length - 1) * 6 + 1, none⟩ (.int .i64 t)) base (.slice (some ⟨g, 0, none⟩) L.length cap) (L.set (L.length - 1) ((lastR L).upto t))) := fun W t q => OwnL.setTo q (L.length - 1) (by omega) t
    have gw : g < w.heap.size := (World.ownsRow.lt HO.out g rfl).2
    have FZ : Hid (∀ W : World, OwnL W base (.slice (some ⟨g, 0, none⟩) L.length cap) L → W.frozen? ⟨g, (L.length - 1) * 6 + 1, none⟩ = false) := fun W q => World.ownsRow.frozenAt q _
    clear hlast h HM c0 e0
    generalize lastR L = la at EJ EN HC ST
    have MJ : Hid _ := MK.out la r
    obtain ⟨jn, hj⟩ : ∃ j, la.joins r = j := ⟨_, rfl⟩
    rw [hj] at MJ EJ EN
    clear hj
    obtain ⟨q1, q2, q3, q4, q5, q6⟩ := la
    obtain ⟨r1, r2, r3, r4, r5, r6⟩ := r
    simp only at d0 EJ
    obtain ⟨nL, hN⟩ : ∃ n, L.length = n := ⟨_, rfl⟩
    rw [hN] at EJ HC ST HO FZ n1 hL ⊢
    have HN : Hid (L.length = nL) := hN
    clear hN
    have y0 : w.cell? ⟨g, (nL - 1) * 6, none⟩ = some (.int .i64 q1) := HC.out 0 _ (by omega) rfl
    have y1 : w.cell? ⟨g, (nL - 1) * 6 + 1, none⟩ = some (.int .i64 q2) := HC.out 1 _ (by omega) rfl
    have y2 : w.cell? ⟨g, (nL - 1) * 6 + 2, none⟩ = some (.bool q3) := HC.out 2 _ (by omega) rfl
    have y3 : w.cell? ⟨g, (nL - 1) * 6 + 3, none⟩ = some (.bool q4) := HC.out 3 _ (by omega) rfl
    have y4 : w.cell? ⟨g, (nL - 1) * 6 + 4, none⟩ = some (.bool q5) := HC.out 4 _ (by omega) rfl
    have y5 : w.cell? ⟨g, (nL - 1) * 6 + 5, none⟩ = some (.int .i64 q6) := HC.out 5 _ (by omega) rfl
    clear HC
    go_enter Tryd.func27, Tryd.ntmps27
    go_wp2_with fail
    refine wp_region_noPanic ?_
    refine wp_region_held_drew (S := fun c => c.cell? ⟨w.heap.size, 0, none⟩ = some (.int .i64 r1) ∧ c.cell? ⟨w.heap.size, 1, none⟩ = some (.int .i64 r2) ∧ c.cell? ⟨w.heap.size, 2, none⟩ = some (.bool r3) ∧ c.cell? ⟨w.heap.size, 3, none⟩ = some (.bool r4) ∧ c.cell? ⟨w.heap.size, 4, none⟩ = some (.bool r5) ∧ c.cell? ⟨w.heap.size, 5, none⟩ = some (.int .i64 r6) ∧ c.cell? ⟨g, (nL - 1) * 6, none⟩ = some (.int .i64 q1) ∧ c.cell? ⟨g, (nL - 1) * 6 + 1, none⟩ = some (.int .i64 q2) ∧ c.cell? ⟨g, (nL - 1) * 6 + 2, none⟩ = some (.bool q3) ∧ c.cell? ⟨g, (nL - 1) * 6 + 3, none⟩ = some (.bool q4) ∧ c.cell? ⟨g, (nL - 1) * 6 + 4, none⟩ = some (.bool q5) ∧ c.cell? ⟨g, (nL - 1) * 6 + 5, none⟩ = some (.int .i64 q6)) (by kernel_rfl) ?_ (fun hHeld => ?_)
    · exact ⟨by simp, by simp, by simp, by simp, by simp, by simp, (World.cell?_alloc_lt _ _ _ (by exact gw)).trans y0, (World.cell?_alloc_lt _ _ _ (by exact gw)).trans y1, (World.cell?_alloc_lt _ _ _ (by exact gw)).trans y2, (World.cell?_alloc_lt _ _ _ (by exact gw)).trans y3, (World.cell?_alloc_lt _ _ _ (by exact gw)).trans y4, (World.cell?_alloc_lt _ _ _ (by exact gw)).trans y5⟩
    refine wpAnyH_take (i := 0) (oi := ⟨some 17, _, _, _, _, none⟩) (v := ?_) rfl (by kernel_rfl) (by kernel_rfl) (by kernel_rfl) (fun _ _ _ h => h) (Or.inl ⟨by rfl, ?_⟩) (by assumption) ?_
    rotate_left
    · intro w hSw; (try dsimp only at hSw); go_simp; (try with_reducible rfl)
    try simp only [Act.put, List.setIfInBounds_toArray, List.set_cons_zero, List.set_cons_succ]
    refine wpAnyH_take (i := 1) (oi := ⟨some 18, _, _, _, _, none⟩) (v := .bool true) rfl (by kernel_rfl) (by kernel_rfl) (by kernel_rfl) (fun _ _ _ h => h) (Or.inl ⟨by rfl, ?_⟩) (by assumption) ?_
    · intro w hSw; (try dsimp only at hSw); go_simp; (try simp); (try omega)
    try simp only [Act.put, List.setIfInBounds_toArray, List.set_cons_zero, List.set_cons_succ]
    refine wpAnyH_take (i := 2) (oi := ⟨some 19, _, _, _, _, none⟩) (v := ?_) rfl (by kernel_rfl) (by kernel_rfl) (by kernel_rfl) (fun _ _ _ h => h) (Or.inl ⟨by rfl, ?_⟩) (by assumption) ?_
    rotate_left
    · intro w hSw; (try dsimp only at hSw); go_simp; (try with_reducible rfl)
    try simp only [Act.put, List.setIfInBounds_toArray, List.set_cons_zero, List.set_cons_succ]
    refine wpAnyH_take (i := 3) (oi := ⟨some 20, _, _, _, _, some (2, true)⟩) (v := ?_) rfl (by kernel_rfl) (by kernel_rfl) (by kernel_rfl) (fun _ _ _ h => h) (Or.inl ⟨by rfl, ?_⟩) (by assumption) ?_
    rotate_left
    · intro w hSw; (try dsimp only at hSw); go_simp; (try with_reducible rfl)
    try simp only [Act.put, List.setIfInBounds_toArray, List.set_cons_zero, List.set_cons_succ]
    refine wpAnyH_take (i := 4) (oi := ⟨some 21, _, _, _, _, some (2, true)⟩) (v := ?_) rfl (by kernel_rfl) (by kernel_rfl) (by kernel_rfl) (fun _ _ _ h => h) (Or.inl ⟨by rfl, ?_⟩) (by assumption) ?_
    rotate_left
    · intro w hSw; (try dsimp only at hSw); go_simp; (try with_reducible rfl)
    try simp only [Act.put, List.setIfInBounds_toArray, List.set_cons_zero, List.set_cons_succ]
    refine wpAnyH_take (i := 5) (oi := ⟨some 22, _, _, _, _, some (2, true)⟩) (v := (.pointer (some ⟨g, (nL - 1) * 6, none⟩))) rfl (by kernel_rfl) (by kernel_rfl) (by kernel_rfl) (fun _ _ _ h => h) (Or.inl ⟨by rfl, ?_⟩) (by assumption) ?_
    · intro w hSw; (try dsimp only at hSw); go_simp; (try simp); (try omega)
    try simp only [Act.put, List.setIfInBounds_toArray, List.set_cons_zero, List.set_cons_succ]
    refine wpAnyH_take (i := 6) (oi := ⟨some 23, _, _, _, _, some (2, true)⟩) (v := .agg #[.int .i64 q1, .int .i64 q2, .bool q3, .bool q4, .bool q5, .int .i64 q6]) rfl (by kernel_rfl) (by kernel_rfl) (by kernel_rfl) (fun _ _ _ h => h) (Or.inl ⟨by rfl, ?_⟩) (by assumption) ?_
    · intro w hSw; (try dsimp only at hSw); go_simp; (try simp [hSw])
    try simp only [Act.put, List.setIfInBounds_toArray, List.set_cons_zero, List.set_cons_succ]
    refine wpAnyH_take (i := 7) (oi := ⟨some 24, _, _, _, _, some (2, true)⟩) (v := .agg #[.int .i64 r1, .int .i64 r2, .bool r3, .bool r4, .bool r5, .int .i64 r6]) rfl (by kernel_rfl) (by kernel_rfl) (by kernel_rfl) (fun _ _ _ h => h) (Or.inl ⟨by rfl, ?_⟩) (by assumption) ?_
    · intro w hSw; (try dsimp only at hSw); go_simp; (try simp [hSw])
    try simp only [Act.put, List.setIfInBounds_toArray, List.set_cons_zero, List.set_cons_succ]
    have OD : Hid (OwnL (w.alloc (.cells #[.int .i64 r1, .int .i64 r2, .bool r3, .bool r4, .bool r5, .int .i64 r6] 46)).drew base (.slice (some ⟨g, 0, none⟩) nL cap) L) := OwnL.below HO.out (below_drew (Go.Joins.below_alloc1 _ _))
    have BD : Hid (Below w.heap.size w (w.alloc (.cells #[.int .i64 r1, .int .i64 r2, .bool r3, .bool r4, .bool r5, .int .i64 r6] 46)).drew) := below_drew (Go.Joins.below_alloc1 _ _)
    have lD : w.heap.size < (w.alloc (.cells #[.int .i64 r1, .int .i64 r2, .bool r3, .bool r4, .bool r5, .int .i64 r6] 46)).drew.heap.size := by show _ < (World.alloc _ _).heap.size; simp
    clear HO y0 y1 y2 y3 y4 y5
    generalize (w.alloc (.cells #[.int .i64 r1, .int .i64 r2, .bool r3, .bool r4, .bool r5, .int .i64 r6] 46)).drew = U at OD BD lD hHeld ⊢
    refine wpAnyH_ready (rs := [8]) (by kernel_rfl) (by simp) ?_
    refine AllReadyH.cons (o := ⟨some 25, _, _, _, _, some (2, true)⟩) rfl (fun K hK => ?_) AllReadyH.nil
    go_simp
    go_wp2_with (go_at_call 52; refine (MJ.out _).mono ?_; rintro e u3 ⟨rfl, hb3⟩)
    have OU : Hid (OwnL u3 base (.slice (some ⟨g, 0, none⟩) nL cap) L) := OwnL.below OD.out hb3
    have BU : Hid (Below w.heap.size w u3) := below_then BD.out hb3
    have lU : w.heap.size < u3.heap.size := Nat.lt_of_lt_of_le lD hb3.size
    obtain ⟨i0, i1, i2, i3, i4, i5, i6, i7, i8, i9, i10, i11⟩ := hHeld
    refine hK.out _ _ ⟨(hb3.cell (p := ⟨_, _, none⟩) (lD)).trans i0, (hb3.cell (p := ⟨_, _, none⟩) (lD)).trans i1, (hb3.cell (p := ⟨_, _, none⟩) (lD)).trans i2, (hb3.cell (p := ⟨_, _, none⟩) (lD)).trans i3, (hb3.cell (p := ⟨_, _, none⟩) (lD)).trans i4, (hb3.cell (p := ⟨_, _, none⟩) (lD)).trans i5, (hb3.cell (p := ⟨_, _, none⟩) ((Nat.lt_trans gw lD))).trans i6, (hb3.cell (p := ⟨_, _, none⟩) ((Nat.lt_trans gw lD))).trans i7, (hb3.cell (p := ⟨_, _, none⟩) ((Nat.lt_trans gw lD))).trans i8, (hb3.cell (p := ⟨_, _, none⟩) ((Nat.lt_trans gw lD))).trans i9, (hb3.cell (p := ⟨_, _, none⟩) ((Nat.lt_trans gw lD))).trans i10, (hb3.cell (p := ⟨_, _, none⟩) ((Nat.lt_trans gw lD))).trans i11⟩ (fun hHeld => ?_)
    clear hK K i0 i1 i2 i3 i4 i5 i6 i7 i8 i9 i10 i11 hb3 OD BD lD
    try simp only [Act.put, List.setIfInBounds_toArray, List.set_cons_zero, List.set_cons_succ]
    refine wpAnyH_take (i := 9) (oi := ⟨some 26, _, _, _, _, none⟩) (v := ?_) rfl (by kernel_rfl) (by kernel_rfl) (by kernel_rfl) (fun _ _ _ h => h) (Or.inl ⟨by rfl, ?_⟩) (by assumption) ?_
    rotate_left
    · intro w hSw; (try dsimp only at hSw); go_simp; (try with_reducible rfl)
    try simp only [Act.put, List.setIfInBounds_toArray, List.set_cons_zero, List.set_cons_succ]
    refine wpAnyH_done (by kernel_rfl) ?_ _
    refine NoPanic.normal ?_
    obtain ⟨x0, x1, x2, x3, x4, x5, x6, x7, x8, x9, x10, x11⟩ := hHeld
    have gu : g < u3.heap.size := (World.ownsRow.lt OU.out g rfl).2
    cases jn
    · have EW : Hid (M = L ++ [⟨r1, r2, r3, r4, r5, r6⟩]) := EN.out rfl
      clear x6 x7 x8 x9 x10 x11 EN EJ ST FZ MK MJ
      have OW : Hid ((u3.alloc (.cells #[.int .i64 r1, .int .i64 r2, .bool r3, .bool r4, .bool r5, .int .i64 r6] 46)).ownsRow base 46 6 (.slice (some ⟨g, 0, none⟩) nL cap) L.length (L.flatMap Rg.enc)) := own_keep OU.out (Go.Joins.below_alloc1 _ _)
      have NW : Hid (∀ j x, ([.int .i64 r1, .int .i64 r2, .bool r3, .bool r4, .bool r5, .int .i64 r6] : List Value)[j]? = some x → (u3.alloc (.cells #[.int .i64 r1, .int .i64 r2, .bool r3, .bool r4, .bool r5, .int .i64 r6] 46)).cell? ((⟨u3.heap.size, 0, none⟩ : Addr).add j) = some x) := news1 u3 #[.int .i64 r1, .int .i64 r2, .bool r3, .bool r4, .bool r5, .int .i64 r6] 46
      have ON : Hid (∀ x ∈ ([.int .i64 r1, .int .i64 r2, .bool r3, .bool r4, .bool r5, .int .i64 r6] : List Value), x.oneCell' = true) := by show ∀ x ∈ ([.int .i64 r1, .int .i64 r2, .bool r3, .bool r4, .bool r5, .int .i64 r6] : List Value), x.oneCell' = true; simp [Value.oneCell']
      have HZ : Hid (base ≤ (u3.alloc (.cells #[.int .i64 r1, .int .i64 r2, .bool r3, .bool r4, .bool r5, .int .i64 r6] 46)).heap.size) := by show _ ≤ _; rw [World.size_alloc]; have := BU.out.size; omega
      have MX : Hid (L.length + 1 ≤ maxLen) := by show _ ≤ _; unfold maxLen; rw [HN.out]; omega
      have BY : Hid ((L.length + 1) * 32 ≤ 140737488355328) := by show _ ≤ _; rw [HN.out]; omega
      have BA : Hid (Below w.heap.size w (u3.alloc (.cells #[.int .i64 r1, .int .i64 r2, .bool r3, .bool r4, .bool r5, .int .i64 r6] 46))) := below_new BU.out _
      have SZ : Hid (w.heap.size ≤ (u3.alloc (.cells #[.int .i64 r1, .int .i64 r2, .bool r3, .bool r4, .bool r5, .int .i64 r6] 46)).heap.size) := BA.out.size
      rw [HN.out] at OW MX BY
      go_wp2_with (at_builtin; refine wpList_append_own_at _ rfl _ _ 36 rfl base 46 i0 zrg 6 32 Tryd.underlying36 hi hz0 hz1 hz2 rfl (by decide) (.slice (some ⟨g, 0, none⟩) nL cap) nL (L.flatMap Rg.enc) rfl OW.out ⟨u3.heap.size, 0, none⟩ 1 1 ([.int .i64 r1, .int .i64 r2, .bool r3, .bool r4, .bool r5, .int .i64 r6] : List Value) rfl rfl NW.out ON.out MX.out BY.out HZ.out ?_; intro v1 a0 hown hg hnil hblk; have O1 : Hid (a0.ownsRow base 46 6 v1 (nL + 1) (L.flatMap Rg.enc ++ [.int .i64 r1, .int .i64 r2, .bool r3, .bool r4, .bool r5, .int .i64 r6])) := hown; have K1 : Hid (WithK w a0 (.slice (some ⟨g, 0, none⟩) nL cap) v1) := ⟨grown_then BA.out hg, hblk.elim Or.inl (fun e => Or.inr ⟨_, SZ.out, e⟩)⟩; clear hown hg hnil hblk OW NW ON HZ MX BY BA SZ)
      go_wp2_with fail
      go_ret
      exact ⟨v1, rfl, by rw [EW.out]; exact OwnL.next (r := ⟨r1, r2, r3, r4, r5, r6⟩) (by rw [HN.out]; exact O1.out), K1.out⟩
    · have EW : Hid (M = L.set (nL - 1) (Rg.upto ⟨q1, q2, q3, q4, q5, q6⟩ r2)) := EJ.out rfl
      have fz : u3.frozen? ⟨g, (nL - 1) * 6 + 1, none⟩ = false := FZ.out _ OU.out
      have OS : Hid (OwnL (u3.setCell ⟨g, (nL - 1) * 6 + 1, none⟩ (.int .i64 r2)) base (.slice (some ⟨g, 0, none⟩) nL cap) M) := by show OwnL _ _ _ _; rw [EW.out]; exact ST.out u3 r2 OU.out
      have KS : Hid (WithK w (u3.setCell ⟨g, (nL - 1) * 6 + 1, none⟩ (.int .i64 r2)) (.slice (some ⟨g, 0, none⟩) nL cap) (.slice (some ⟨g, 0, none⟩) nL cap)) := ⟨grown_then BU.out (grown_setCell1 u3 g _ _), Or.inl rfl⟩
      clear x6 x8 x9 x10 x11 EN EJ ST FZ MK MJ OU BU EW
      go_wp2_with fail
      go_ret
      exact ⟨_, rfl, OS.out, KS.out⟩
end Go.Proofs.YtkiclbnbnjbcaabDoor.Re
namespace Go.Proofs.YtkiclbnbnjbcaabDoor.Re
open Go.ChangeShapes Go.WideShapes Go.ChangeAt Go.RowKit Go.Maps
set_option linter.unusedSimpArgs false
set_option linter.unusedVariables false
set_option maxRecDepth 8000

theorem min_pat {P : Program} {ops : Array Oper} {rest : List Oper} {ty t : TypeId} {x y : Operand} {q : Tmp} {pos : String} {af : Array Edge} {a : Act} {w : World} {Q : Exit → Act → World → Prop} (u v z : Int) (hz : min u v = z) (hx : a.eval x = .int .i64 u) (hy : a.eval y = .int .i64 v)
    (h : wpList P ops Q rest (a.put (some q) (.int .i64 z)) w) : wpList P ops Q ({ dst := some q, op := .call { callee := .builtin .min, args := #[x, y], argTypes := #[ty, ty] }, type := t, pos := pos, after := af, guard := none } :: rest) a w := by
  refine wpList_plain rfl fun K hK => ?_
  subst hz
  unfold Oper.wp execOp
  rcases min_cases u v with ⟨c, e⟩ | ⟨c, e⟩
  · rw [e] at h
    simp only [resolve, invoke, builtin, Sem.run_bind, Sem.run_pure, Result.andThen_ok, List.map_toArray, List.map_cons, List.map_nil, hx, hy]
    go_simp
    first | exact hK _ _ h | (split <;> first | exact hK _ _ h | (exfalso; omega))
  · rw [e] at h
    simp only [resolve, invoke, builtin, Sem.run_bind, Sem.run_pure, Result.andThen_ok, List.map_toArray, List.map_cons, List.map_nil, hx, hy]
    go_simp
    first | exact hK _ _ h | (split <;> first | exact hK _ _ h | (exfalso; omega))
theorem max_pat {P : Program} {ops : Array Oper} {rest : List Oper} {ty t : TypeId} {x y : Operand} {q : Tmp} {pos : String} {af : Array Edge} {a : Act} {w : World} {Q : Exit → Act → World → Prop} (u v z : Int) (hz : max u v = z) (hx : a.eval x = .int .i64 u) (hy : a.eval y = .int .i64 v)
    (h : wpList P ops Q rest (a.put (some q) (.int .i64 z)) w) : wpList P ops Q ({ dst := some q, op := .call { callee := .builtin .max, args := #[x, y], argTypes := #[ty, ty] }, type := t, pos := pos, after := af, guard := none } :: rest) a w := by
  refine wpList_plain rfl fun K hK => ?_
  subst hz
  unfold Oper.wp execOp
  rcases max_cases u v with ⟨c, e⟩ | ⟨c, e⟩
  · rw [e] at h
    simp only [resolve, invoke, builtin, Sem.run_bind, Sem.run_pure, Result.andThen_ok, List.map_toArray, List.map_cons, List.map_nil, hx, hy]
    go_simp
    first | exact hK _ _ h | (split <;> first | exact hK _ _ h | (exfalso; omega))
  · rw [e] at h
    simp only [resolve, invoke, builtin, Sem.run_bind, Sem.run_pure, Result.andThen_ok, List.map_toArray, List.map_cons, List.map_nil, hx, hy]
    go_simp
    first | exact hK _ _ h | (split <;> first | exact hK _ _ h | (exfalso; omega))
set_option maxHeartbeats 1000000 in
theorem cut_cl (r : Rg) (w : World) : Calls Tryd.prog 30 #[r.val] w fun e w' => e = .returned Rg.zero.val ∧ Below w.heap.size w w' := by
  obtain ⟨r1, r2, r3, r4, r5, r6⟩ := r
  go_enter Tryd.func30, Tryd.ntmps30
  go_wp2
  go_returns
  exact ⟨rfl, Go.Joins.below_alloc2 _ _ _⟩
def Rg.may (r : Rg) (a b c : Bool) : Rg := ⟨r.fr, r.tt, a, b, c, r.kd⟩
/-- a Perm that lies in block B -/
def IsPm (w : World) (B : Nat) (a b c : Bool) : Prop := w.cell? ⟨B, 0, none⟩ = some (.bool a) ∧ w.cell? ⟨B, 1, none⟩ = some (.bool b) ∧ w.cell? ⟨B, 2, none⟩ = some (.bool c)
theorem IsPm.low {w w' : World} {n B : Nat} {a b c : Bool} (h : IsPm w B a b c) (hB : B < n) (hb : Below n w w') : IsPm w' B a b c := ⟨(hb.cell (p := ⟨B, 0, none⟩) hB).trans h.1, (hb.cell (p := ⟨B, 1, none⟩) hB).trans h.2.1, (hb.cell (p := ⟨B, 2, none⟩) hB).trans h.2.2⟩
set_option maxHeartbeats 1000000 in
theorem prot_cl (r : Rg) (B : Nat) (a b c : Bool) (w : World) (hp : IsPm w B a b c) (lB : B < w.heap.size) : Calls Tryd.prog 31 #[r.val, .pointer (some ⟨B, 0, none⟩)] w fun e w' => e = .returned (r.may a b c).val ∧ Below w.heap.size w w' := by
  obtain ⟨r1, r2, r3, r4, r5, r6⟩ := r
  obtain ⟨h0, h1, h2⟩ := hp
  go_enter Tryd.func31, Tryd.ntmps31
  go_wp2
  go_returns
  exact ⟨rfl, Go.Joins.below_alloc2 _ _ _⟩
def Rg.mid (r : Rg) (f t : Int) : Rg := ⟨max r.fr f, min r.tt t, r.w, r.u, r.x, r.kd⟩
def Rg.from (r : Rg) (t : Int) : Rg := ⟨t, r.tt, r.w, r.u, r.x, r.kd⟩
def part (G : Rg → Rg) (f t : Int) (M : List Rg) (r : Rg) : List Rg := withL (withL (withL M (r.upto (min r.tt f))) (G (r.mid f t))) (r.from (max r.fr t))
def chg (G : Rg → Rg) (f t : Int) (L : List Rg) : List Rg := L.foldl (part G f t) []
theorem chg_next (G : Rg → Rg) (f t : Int) (L : List Rg) (m : Nat) (h : m < L.length) : chg G f t (L.take (m + 1)) = part G f t (chg G f t (L.take m)) (L.getD m Rg.zero) := by
  unfold chg; rw [takeR_next L m h, List.foldl_append]; rfl
theorem part_len (G : Rg → Rg) (f t : Int) (M : List Rg) (r : Rg) : (part G f t M r).length ≤ M.length + 3 := by
  unfold part
  have h1 := withL_len M (r.upto (min r.tt f))
  have h2 := withL_len (withL M (r.upto (min r.tt f))) (G (r.mid f t))
  have h3 := withL_len (withL (withL M (r.upto (min r.tt f))) (G (r.mid f t))) (r.from (max r.fr t))
  omega
theorem chg_len (G : Rg → Rg) (f t : Int) (L : List Rg) : ∀ m, m ≤ L.length → (chg G f t (L.take m)).length ≤ 3 * m
  | 0, _ => by simp [chg]
  | m + 1, h => by
    rw [chg_next G f t L m (by omega)]
    have h1 := chg_len G f t L m (by omega)
    have h2 := part_len G f t (chg G f t (L.take m)) (L.getD m Rg.zero)
    omega
/-- an answer: the list, or ErrBig -/
def Res (w' : World) (base : Nat) (v : Value) (er : Int) (M : List Rg) : Prop := (M.length ≤ 64 ∧ er = 0 ∧ OwnL w' base v M) ∨ (64 < M.length ∧ er = 4 ∧ v = .slice none 0 0)
theorem OwnL.low {w w' : World} {base n : Nat} {v : Value} {L : List Rg} (h : OwnL w base v L) (hn : w.heap.size ≤ n) (hb : Below n w w') : OwnL w' base v L := OwnL.below h ⟨hb.os, hb.tape, hb.output, hb.size, fun k hk => hb.block k (by omega)⟩
/-- blocks that aren't the list's stay -/
theorem WithK.block {w w' : World} {v v' : Value} (h : WithK w w' v v') (k : Nat) (hk : k < w.heap.size) (hv : v.ownBlock ≠ some k) : w'.heap[k]? = w.heap[k]? := h.1.block k hk (fun e => hv e.symm)
theorem WithK.ne {w w' : World} {v v' : Value} (h : WithK w w' v v') (k : Nat) (hk : k < w.heap.size) (hv : v.ownBlock ≠ some k) : v'.ownBlock ≠ some k := by
  rcases h.2 with e | ⟨j, hj, e⟩
  · rw [e]; exact hv
  · rw [e]; intro q; have := Option.some.inj q; omega
theorem WithK.below {w w' : World} {v v' : Value} {b : Nat} {L : List Rg} (h : WithK w w' v v') (ho : OwnL w b v L) (hb : b ≤ w.heap.size) : Below b w w' := ⟨h.1.os, h.1.tape, h.1.output, h.1.size, fun k hk => h.1.block k (by omega) (fun e => by have := World.ownsRow.lt ho k e.symm; omega)⟩
theorem blk_ne {w : World} {b c k : Nat} {v : Value} {L : List Rg} (ho : OwnL w b v L) (hk : w.heap.size ≤ k) : v.ownBlock ≠ some k := fun e => by have := (World.ownsRow.lt ho k e).2; omega
theorem set_block {w : World} {b o k : Nat} {v : Value} (h : k ≠ b) : (w.setCell ⟨b, o, none⟩ v).heap[k]? = w.heap[k]? := Below.heap_setCell w ⟨b, o, none⟩ v k h
theorem set_same {w : World} {b o : Nat} {v : Value} {cs cs' : Array Value} {t : TypeId} (h : w.heap[b]? = some (.cells cs t (0, 0))) (e : cs.setIfInBounds o v = cs') : (w.setCell ⟨b, o, none⟩ v).heap[b]? = some (.cells cs' t (0, 0)) := by rw [← e]; exact Go.Joins.block_setCell h v
theorem four_block (u : World) (o : Obj) (k : Nat) (h1 : u.heap.size ≤ k) (h2 : k ≤ u.heap.size + 3) : (((((u.alloc o).alloc o).alloc o).alloc o).drew).heap[k]? = some o := by
  have s1 : (u.alloc o).heap.size = u.heap.size + 1 := World.size_alloc _ _
  have s2 : ((u.alloc o).alloc o).heap.size = u.heap.size + 1 + 1 := by rw [World.size_alloc, s1]
  have s3 : (((u.alloc o).alloc o).alloc o).heap.size = u.heap.size + 1 + 1 + 1 := by rw [World.size_alloc, s2]
  show ((((u.alloc o).alloc o).alloc o).alloc o).heap[k]? = some o
  by_cases c3 : k = u.heap.size + 3
  · have := own1 (((u.alloc o).alloc o).alloc o) o
    rw [s3] at this; rw [c3]; exact this
  rw [(Go.Joins.below_alloc1 (((u.alloc o).alloc o).alloc o) o).block k (by omega)]
  by_cases c2 : k = u.heap.size + 2
  · have := own1 ((u.alloc o).alloc o) o
    rw [s2] at this; rw [c2]; exact this
  rw [(Go.Joins.below_alloc1 ((u.alloc o).alloc o) o).block k (by omega)]
  by_cases c1 : k = u.heap.size + 1
  · have := own1 (u.alloc o) o
    rw [s1] at this; rw [c1]; exact this
  rw [(Go.Joins.below_alloc1 (u.alloc o) o).block k (by omega)]
  have : k = u.heap.size := by omega
  rw [this]; exact own1 u o
theorem blk_lt {w : World} {b : Nat} {o : Obj} (h : w.heap[b]? = some o) : b < w.heap.size := (Array.getElem?_eq_some_iff.1 h).1
end Go.Proofs.YtkiclbnbnjbcaabDoor.Re
namespace Go.Proofs.YtkiclbnbnjbcaabDoor.Re
open Go.ChangeShapes Go.WideShapes Go.ChangeAt Go.RowKit Go.Maps
set_option linter.unusedSimpArgs false
set_option linter.unusedVariables false
set_option maxRecDepth 8000

/-- what holds of each region of a good list -/
theorem good_at {L : List Rg} (h : goodB L = true) : L.length ≤ 64 ∧ ∀ i, i < L.length → (0 ≤ (L.getD i Rg.zero).fr ∧ (L.getD i Rg.zero).fr < (L.getD i Rg.zero).tt ∧ (L.getD i Rg.zero).tt ≤ 34359738368) ∧ (i + 1 < L.length → (L.getD i Rg.zero).tt ≤ (L.getD (i + 1) Rg.zero).fr ∧ (L.getD i Rg.zero).joins (L.getD (i + 1) Rg.zero) = false) := by
  unfold goodB at h
  rw [Bool.and_eq_true, allB_iff] at h
  obtain ⟨h1, h2⟩ := h
  have e : ∀ i, i < L.length → endAt L i ≤ (L.getD i Rg.zero).fr ∧ (L.getD i Rg.zero).fr < (L.getD i Rg.zero).tt ∧ (L.getD i Rg.zero).tt ≤ 34359738368 ∧ jnAt L i = false := fun i hi => by
    have := h2 i hi
    unfold okAt okR at this
    generalize L.getD i Rg.zero = rr at this ⊢
    simp at this
    obtain ⟨⟨a, b, c⟩, d⟩ := this
    exact ⟨by omega, by omega, by omega, by simpa using d⟩
  have z : ∀ i, i < L.length → 0 ≤ (L.getD i Rg.zero).fr := by
    intro i
    induction i with
    | zero => intro hi; have := (e 0 hi).1; exact this
    | succ n ih =>
      intro hi
      have q := ih (by omega)
      have a := e n (by omega)
      have b := (e (n + 1) hi).1
      have : endAt L (n + 1) = (L.getD n Rg.zero).tt := rfl
      omega
  refine ⟨by simpa using h1, fun i hi => ⟨⟨z i hi, (e i hi).2.1, (e i hi).2.2.1⟩, fun hj => ⟨(e (i + 1) hj).1, (e (i + 1) hj).2.2.2⟩⟩⟩
theorem good_num {L : List Rg} (h : goodB L = true) : NumL L := fun k hk => by
  have := ((good_at h).2 k hk).1
  exact ⟨by omega, by omega⟩
theorem right_is {f t : Int} (h : rightB f t = true) : 0 ≤ f ∧ f < t ∧ t ≤ 34359738368 ∧ t - f ≤ 65536 := by
  unfold rightB at h; simp at h; omega
theorem check_zero {L : List Rg} {f t : Int} (h : checkN L f t = 0) : rightB f t = true ∧ goodB L = true := by
  unfold checkN at h
  by_cases a : rightB f t = true
  · rw [if_pos a] at h
    by_cases b : goodB L = true
    · exact ⟨a, b⟩
    · rw [if_neg b] at h; omega
  · rw [if_neg a] at h; omega
def protN (L : List Rg) (f t : Int) : Int := if checkN L f t = 0 then (if cntR f t L < t - f then 5 else 0) else checkN L f t
def lowR (f : Int) (r : Rg) : Bool := decide (r.tt ≤ f)
def aheadN (L : List Rg) (f : Int) : Nat := (L.takeWhile (lowR f)).length
theorem ahead_is (f : Int) : ∀ (L : List Rg) (k : Nat), k ≤ L.length → (∀ j, j < k → (L.getD j Rg.zero).tt ≤ f) → (k = L.length ∨ f < (L.getD k Rg.zero).tt) → aheadN L f = k
  | [], k, h, _, _ => by have : k = 0 := by simpa using h
                         subst this; rfl
  | r :: l, 0, _, _, h => by
    rcases h with h | h
    · simp at h
    · have : ¬ (r.tt ≤ f) := by have := h; simp [List.getD] at this; omega
      unfold aheadN; rw [List.takeWhile_cons_of_neg (by unfold lowR; simpa using this)]; rfl
  | r :: l, k + 1, hk, hj, h => by
    have h0 : r.tt ≤ f := by have := hj 0 (by omega); simpa [List.getD] using this
    unfold aheadN
    rw [List.takeWhile_cons_of_pos (by unfold lowR; simpa using h0), List.length_cons]
    congr 1
    refine ahead_is f l k (by simpa using hk) (fun j q => by have := hj (j + 1) (by omega); simpa [List.getD] using this) ?_
    rcases h with h | h
    · left; simpa using h
    · right; simpa [List.getD] using h
def preL (M : List Rg) (L : List Rg) : List Rg := L.foldl withL M
theorem pre_next (M L : List Rg) (m : Nat) (h : m < L.length) : preL M (L.take (m + 1)) = withL (preL M (L.take m)) (L.getD m Rg.zero) := by
  unfold preL; rw [takeR_next L m h, List.foldl_append]; rfl
theorem pre_len (M L : List Rg) : ∀ m, m ≤ L.length → (preL M (L.take m)).length ≤ M.length + m
  | 0, _ => by simp [preL]
  | m + 1, h => by
    rw [pre_next M L m (by omega)]
    have h1 := pre_len M L m (by omega)
    have h2 := withL_len (preL M (L.take m)) (L.getD m Rg.zero)
    omega
def addL (L : List Rg) (r : Rg) : List Rg := preL (withL (preL [] (L.take (aheadN L r.fr))) r) (L.drop (aheadN L r.fr))
def addN (L : List Rg) (r : Rg) : Int := if checkN L r.fr r.tt = 0 then (if 0 < cntR r.fr r.tt L then 6 else 0) else checkN L r.fr r.tt
end Go.Proofs.YtkiclbnbnjbcaabDoor.Re
namespace Go.Proofs.YtkiclbnbnjbcaabDoor.Re
set_option linter.unusedSimpArgs false
set_option linter.unusedVariables false
set_option maxRecDepth 8000

abbrev Att := Bool × Bool × Bool × Int
def Rg.att (r : Rg) : Att := (r.w, r.u, r.x, r.kd)
/-- how a page may be used, and its kind -/
def atR : List Rg → Int → Option Att
  | [], _ => none
  | r :: l, x => if r.fr ≤ x ∧ x < r.tt then some r.att else atR l x
/-- rising from e on, none empty, none that makes one with the next -/
def Can (e : Int) : List Rg → Prop
  | [] => True
  | r :: l => (e ≤ r.fr ∧ r.fr < r.tt) ∧ Can r.tt l ∧ ∀ c, l.head? = some c → r.joins c = false
def endL (e : Int) : List Rg → Int
  | [] => e
  | r :: l => endL r.tt l
theorem can_end : ∀ (L : List Rg) (e : Int), Can e L → e ≤ endL e L
  | [], e, _ => Int.le_refl _
  | r :: l, e, h => by
    have := can_end l r.tt h.2.1
    have := h.1
    show e ≤ endL r.tt l
    omega
theorem at_low : ∀ (L : List Rg) (e x : Int), Can e L → x < e → atR L x = none
  | [], _, _, _, _ => rfl
  | r :: l, e, x, h, hx => by
    have := h.1
    unfold atR
    rw [if_neg (by omega)]
    exact at_low l r.tt x h.2.1 (by omega)
theorem at_high : ∀ (L : List Rg) (e x : Int), Can e L → endL e L ≤ x → atR L x = none
  | [], _, _, _, _ => rfl
  | r :: l, e, x, h, hx => by
    have h1 := can_end l r.tt h.2.1
    have h2 : endL r.tt l ≤ x := hx
    unfold atR
    rw [if_neg (by omega)]
    exact at_high l r.tt x h.2.1 h2
theorem at_append (M : List Rg) (x : Int) : ∀ L : List Rg, atR (L ++ M) x = (atR L x).or (atR M x)
  | [] => by simp [atR]
  | r :: l => by
    show (if r.fr ≤ x ∧ x < r.tt then some r.att else atR (l ++ M) x) = (if r.fr ≤ x ∧ x < r.tt then some r.att else atR l x).or (atR M x)
    by_cases c : r.fr ≤ x ∧ x < r.tt
    · rw [if_pos c, if_pos c]; rfl
    · rw [if_neg c, if_neg c]; exact at_append M x l
theorem last_cons (r a : Rg) (l : List Rg) : lastR (r :: a :: l) = lastR (a :: l) := by
  unfold lastR
  simp [List.getD]
theorem last_one (r : Rg) : lastR [r] = r := rfl
theorem end_last : ∀ (L : List Rg) (e : Int), 0 < L.length → endL e L = (lastR L).tt
  | [], _, h => absurd h (Nat.lt_irrefl _)
  | [r], _, _ => rfl
  | r :: a :: l, e, _ => by
    rw [last_cons]
    exact end_last (a :: l) r.tt (by simp)
theorem can_snoc : ∀ (L : List Rg) (e : Int) (r : Rg), Can e L → endL e L ≤ r.fr → r.fr < r.tt → (0 < L.length → (lastR L).joins r = false) → Can e (L ++ [r]) ∧ endL e (L ++ [r]) = r.tt
  | [], e, r, _, h1, h2, _ => ⟨⟨⟨h1, h2⟩, trivial, fun c hc => by simp at hc⟩, rfl⟩
  | [a], e, r, h, h1, h2, h3 => by
    have h1' : a.tt ≤ r.fr := h1
    refine ⟨⟨h.1, ⟨⟨h1', h2⟩, trivial, fun c hc => by simp at hc⟩, fun c hc => ?_⟩, rfl⟩
    have : c = r := by simpa using hc.symm
    subst this; exact h3 (by simp)
  | a :: b :: l, e, r, h, h1, h2, h3 => by
    obtain ⟨i1, i2⟩ := can_snoc (b :: l) a.tt r h.2.1 h1 h2 (fun _ => by have := h3 (by simp); rwa [last_cons] at this)
    exact ⟨⟨h.1, i1, fun c hc => h.2.2 c (by simpa using hc)⟩, i2⟩
/-- the last one goes on -/
def extL : List Rg → Int → List Rg
  | [], _ => []
  | [a], t => [a.upto t]
  | a :: b :: l, t => a :: extL (b :: l) t
theorem set_ext : ∀ (L : List Rg) (t : Int), 0 < L.length → L.set (L.length - 1) ((lastR L).upto t) = extL L t
  | [], _, h => absurd h (Nat.lt_irrefl _)
  | [a], t, _ => rfl
  | a :: b :: l, t, _ => by
    have := set_ext (b :: l) t (by simp)
    rw [last_cons]
    show (a :: b :: l).set ((b :: l).length) _ = a :: extL (b :: l) t
    rw [← this]
    rfl
theorem joins_upto (a c : Rg) (t : Int) : a.joins (c.upto t) = a.joins c := rfl
theorem ext_head : ∀ (L : List Rg) (t : Int) (a : Rg), (∀ c, L.head? = some c → a.joins c = false) → ∀ c, (extL L t).head? = some c → a.joins c = false
  | [], _, _, h => h
  | [b], t, a, h => fun c hc => by
    have : c = b.upto t := by simpa [extL] using hc.symm
    subst this; rw [joins_upto]; exact h b rfl
  | b :: d :: l, t, a, h => fun c hc => h c (by simpa [extL] using hc)
theorem ext_can : ∀ (L : List Rg) (e t : Int), Can e L → 0 < L.length → endL e L ≤ t → Can e (extL L t) ∧ endL e (extL L t) = t
  | [], _, _, _, h, _ => absurd h (Nat.lt_irrefl _)
  | [a], e, t, h, _, ht => by
    have h1 := h.1
    have ht' : a.tt ≤ t := ht
    exact ⟨⟨⟨h1.1, by show a.fr < t; omega⟩, trivial, fun c hc => by simp at hc⟩, rfl⟩
  | a :: b :: l, e, t, h, _, ht => by
    obtain ⟨i1, i2⟩ := ext_can (b :: l) a.tt t h.2.1 (by simp) ht
    exact ⟨⟨h.1, i1, ext_head (b :: l) t a h.2.2⟩, i2⟩
theorem ext_at : ∀ (L : List Rg) (e t x : Int), Can e L → 0 < L.length → endL e L ≤ t → atR (extL L t) x = (atR L x).or (if endL e L ≤ x ∧ x < t then some (lastR L).att else none)
  | [], _, _, _, _, h, _ => absurd h (Nat.lt_irrefl _)
  | [a], e, t, x, h, _, ht => by
    have ht' : a.tt ≤ t := ht
    have h1 := h.1
    show (if a.fr ≤ x ∧ x < t then some a.att else none) = (if a.fr ≤ x ∧ x < a.tt then some a.att else none).or (if a.tt ≤ x ∧ x < t then some a.att else none)
    by_cases c : a.fr ≤ x ∧ x < a.tt
    · rw [if_pos c, if_pos (by omega)]; rfl
    · rw [if_neg c]
      by_cases d : a.tt ≤ x ∧ x < t
      · rw [if_pos d, if_pos (by omega)]; rfl
      · rw [if_neg d, if_neg (by omega)]; rfl
  | a :: b :: l, e, t, x, h, _, ht => by
    have i := ext_at (b :: l) a.tt t x h.2.1 (by simp) ht
    rw [last_cons]
    show (if a.fr ≤ x ∧ x < a.tt then some a.att else atR (extL (b :: l) t) x) = (if a.fr ≤ x ∧ x < a.tt then some a.att else atR (b :: l) x).or (if endL a.tt (b :: l) ≤ x ∧ x < t then some (lastR (b :: l)).att else none)
    by_cases c : a.fr ≤ x ∧ x < a.tt
    · rw [if_pos c, if_pos c]; rfl
    · rw [if_neg c, if_neg c]; exact i
theorem joins_is {a b : Rg} (h : a.joins b = true) : a.tt = b.fr ∧ a.att = b.att := by
  unfold Rg.joins Rg.perm at h
  simp at h
  obtain ⟨h1, ⟨h2, h3, h4⟩, h5⟩ := h
  exact ⟨h1, by unfold Rg.att; rw [h2, h3, h4, h5]⟩
def Rg.pg (r : Rg) (x : Int) : Option Att := if r.fr ≤ x ∧ x < r.tt then some r.att else none
theorem with_can (L : List Rg) (e : Int) (r : Rg) (h : Can e L) (hr : r.fr < r.tt → endL e L ≤ r.fr) : Can e (withL L r) ∧ endL e (withL L r) = (if r.fr < r.tt then r.tt else endL e L) ∧ ∀ x, atR (withL L r) x = (atR L x).or (r.pg x) := by
  unfold withL
  by_cases c : r.tt ≤ r.fr
  · rw [if_pos c, if_neg (by omega)]
    refine ⟨h, rfl, fun x => ?_⟩
    unfold Rg.pg; rw [if_neg (by omega)]; simp
  · have hc : r.fr < r.tt := by omega
    have hr' := hr hc
    rw [if_neg c, if_pos hc]
    by_cases d : 0 < L.length ∧ (lastR L).joins r = true
    · obtain ⟨d1, d2⟩ := d
      rw [if_pos ⟨d1, d2⟩, set_ext L r.tt d1]
      obtain ⟨j1, j2⟩ := joins_is d2
      have el := end_last L e d1
      obtain ⟨i1, i2⟩ := ext_can L e r.tt h d1 (by omega)
      refine ⟨i1, i2, fun x => ?_⟩
      rw [ext_at L e r.tt x h d1 (by omega), j2, el, j1]; rfl
    · rw [if_neg d]
      obtain ⟨i1, i2⟩ := can_snoc L e r h hr' hc (fun q => by
        cases k : (lastR L).joins r
        · rfl
        · exact absurd ⟨q, k⟩ d)
      refine ⟨i1, i2, fun x => ?_⟩
      rw [at_append]; rfl
theorem or_assoc4 (a b c : Option Att) : (a.or b).or c = a.or (b.or c) := by cases a <;> rfl
theorem pre_can : ∀ (L M : List Rg) (e : Int), Can e M → Can (endL e M) L → Can e (preL M L) ∧ endL e (preL M L) = endL (endL e M) L ∧ ∀ x, atR (preL M L) x = (atR M x).or (atR L x)
  | [], M, e, h, _ => ⟨h, rfl, fun x => by show atR M x = (atR M x).or none; simp⟩
  | r :: l, M, e, h, hl => by
    have h1 := hl.1
    obtain ⟨a1, a2, a3⟩ := with_can M e r h (fun _ => h1.1)
    rw [if_pos h1.2] at a2
    obtain ⟨b1, b2, b3⟩ := pre_can l (withL M r) e a1 (by rw [a2]; exact hl.2.1)
    refine ⟨b1, by show endL e (preL (withL M r) l) = _; rw [b2, a2]; rfl, fun x => ?_⟩
    show atR (preL (withL M r) l) x = _
    rw [b3, a3, or_assoc4]
    congr 1
    unfold Rg.pg
    show (if r.fr ≤ x ∧ x < r.tt then some r.att else none).or (atR l x) = if r.fr ≤ x ∧ x < r.tt then some r.att else atR l x
    by_cases c : r.fr ≤ x ∧ x < r.tt
    · rw [if_pos c, if_pos c]; rfl
    · rw [if_neg c, if_neg c]; rfl
/-- two such lists with the same pages are one -/
theorem can_eq : ∀ (L M : List Rg) (e f : Int), Can e L → Can f M → (∀ x, atR L x = atR M x) → L = M
  | [], [], _, _, _, _, _ => rfl
  | [], b :: m, _, f, _, hm, h => by
    have h1 := hm.1
    have := h b.fr
    unfold atR at this
    rw [if_pos ⟨by omega, h1.2⟩] at this
    cases this
  | a :: l, [], e, _, hl, _, h => by
    have h1 := hl.1
    have := h a.fr
    unfold atR at this
    rw [if_pos ⟨by omega, h1.2⟩] at this
    cases this
  | a :: l, b :: m, e, f, hl, hm, h => by
    obtain ⟨l1, l2, l3⟩ := hl
    obtain ⟨m1, m2, m3⟩ := hm
    have atA : ∀ x, atR (a :: l) x = if a.fr ≤ x ∧ x < a.tt then some a.att else atR l x := fun _ => rfl
    have atB : ∀ x, atR (b :: m) x = if b.fr ≤ x ∧ x < b.tt then some b.att else atR m x := fun _ => rfl
    have ef : a.fr = b.fr := by
      have q1 := h a.fr
      have q2 := h b.fr
      rw [atA, atB, if_pos ⟨by omega, by omega⟩] at q1
      rw [atA, atB] at q2
      rw [if_pos (show b.fr ≤ b.fr ∧ b.fr < b.tt from ⟨by omega, m1.2⟩)] at q2
      by_cases c : a.fr < b.fr
      · rw [if_neg (by omega), at_low m b.tt a.fr m2 (by omega)] at q1; cases q1
      · by_cases d : b.fr < a.fr
        · rw [if_neg (by omega), at_low l a.tt b.fr l2 (by omega)] at q2; cases q2
        · omega
    have ea : a.att = b.att := by
      have q1 := h a.fr
      rw [atA, atB, if_pos ⟨by omega, by omega⟩, if_pos ⟨by omega, by omega⟩] at q1
      exact Option.some.inj q1
    have key : ∀ (p q : Rg) (k n : List Rg), p.fr = q.fr → p.att = q.att → p.fr < p.tt → Can p.tt k → (∀ c, k.head? = some c → p.joins c = false) → (∀ x, (if p.fr ≤ x ∧ x < p.tt then some p.att else atR k x) = if q.fr ≤ x ∧ x < q.tt then some q.att else atR n x) → ¬ (p.tt < q.tt) := fun p q k n e1 e2 e3 e4 e5 e6 e7 => by
      have := e6 p.tt
      rw [if_neg (by omega), if_pos ⟨by omega, e7⟩] at this
      cases k with
      | nil => cases this
      | cons c k' =>
        have c1 := e4.1
        unfold atR at this
        by_cases d : c.fr ≤ p.tt ∧ p.tt < c.tt
        · rw [if_pos d] at this
          have ec : c.att = q.att := Option.some.inj this
          have j := e5 c rfl
          have : p.joins c = true := by
            unfold Rg.joins Rg.perm
            have e8 : p.att = c.att := by rw [e2, ec]
            unfold Rg.att at e8
            simp only [Prod.mk.injEq] at e8
            simp [e8.1, e8.2.1, e8.2.2.1, e8.2.2.2]
            omega
          rw [j] at this; cases this
        · rw [if_neg d, at_low k' c.tt p.tt e4.2.1 (by omega)] at this
          cases this
    have et : a.tt = b.tt := by
      have k1 := key a b l m ef ea l1.2 l2 l3 (fun x => by have := h x; rw [atA, atB] at this; exact this)
      have k2 := key b a m l ef.symm ea.symm m1.2 m2 m3 (fun x => by have := h x; rw [atA, atB] at this; exact this.symm)
      omega
    have eab : a = b := by
      obtain ⟨a1, a2, a3, a4, a5, a6⟩ := a
      obtain ⟨b1, b2, b3, b4, b5, b6⟩ := b
      unfold Rg.att at ea
      simp only [Prod.mk.injEq] at ea
      simp only at ef et
      obtain ⟨i1, i2, i3, i4⟩ := ea
      subst i1 i2 i3 i4 ef et
      rfl
    subst eab
    congr 1
    refine can_eq l m a.tt a.tt l2 m2 (fun x => ?_)
    by_cases c : x < a.tt
    · rw [at_low l a.tt x l2 c, at_low m a.tt x m2 c]
    · have := h x
      rw [atA, atB, if_neg (by omega), if_neg (by omega)] at this
      exact this
end Go.Proofs.YtkiclbnbnjbcaabDoor.Re
namespace Go.Proofs.YtkiclbnbnjbcaabDoor.Re
set_option linter.unusedSimpArgs false
set_option linter.unusedVariables false
set_option maxRecDepth 8000

theorem getD_succ (r : Rg) (l : List Rg) (i : Nat) : (r :: l).getD (i + 1) Rg.zero = l.getD i Rg.zero := by simp [List.getD]
theorem getD_zero (r : Rg) (l : List Rg) : (r :: l).getD 0 Rg.zero = r := rfl
theorem can_of (T : Int) : ∀ (L : List Rg) (e : Int), (0 < L.length → e ≤ (L.getD 0 Rg.zero).fr) → (∀ i, i < L.length → ((L.getD i Rg.zero).fr < (L.getD i Rg.zero).tt ∧ (L.getD i Rg.zero).tt ≤ T) ∧ (i + 1 < L.length → (L.getD i Rg.zero).tt ≤ (L.getD (i + 1) Rg.zero).fr ∧ (L.getD i Rg.zero).joins (L.getD (i + 1) Rg.zero) = false)) → e ≤ T → Can e L ∧ endL e L ≤ T
  | [], e, _, _, he => ⟨trivial, he⟩
  | r :: l, e, h0, h, he => by
    have a := h 0 (by simp)
    rw [getD_zero, getD_succ] at a
    have z := h0 (by simp)
    rw [getD_zero] at z
    obtain ⟨i1, i2⟩ := can_of T l r.tt (fun q => (a.2 (by simpa using q)).1) (fun i hi => by
      have := h (i + 1) (by simpa using hi)
      rw [getD_succ, getD_succ] at this
      exact ⟨this.1, fun q => this.2 (by simpa using q)⟩) a.1.2
    refine ⟨⟨⟨z, a.1.1⟩, i1, fun c hc => ?_⟩, i2⟩
    cases l with
    | nil => simp at hc
    | cons d l' =>
      have : c = d := by simpa using hc.symm
      subst this
      exact (a.2 (by simp)).2
theorem good_can {L : List Rg} (h : goodB L = true) : Can 0 L ∧ endL 0 L ≤ 34359738368 ∧ L.length ≤ 64 := by
  obtain ⟨h1, h2⟩ := good_at h
  obtain ⟨a, b⟩ := can_of 34359738368 L 0 (fun q => ((h2 0 q).1).1) (fun i hi => ⟨⟨(h2 i hi).1.2.1, (h2 i hi).1.2.2⟩, (h2 i hi).2⟩) (by omega)
  exact ⟨a, b, h1⟩
theorem can_idx : ∀ (L : List Rg) (e : Int), Can e L → ∀ i, i < L.length → (L.getD i Rg.zero).fr < (L.getD i Rg.zero).tt ∧ (L.getD i Rg.zero).tt ≤ endL e L ∧ (i = 0 → e ≤ (L.getD i Rg.zero).fr) ∧ (i + 1 < L.length → (L.getD i Rg.zero).tt ≤ (L.getD (i + 1) Rg.zero).fr ∧ (L.getD i Rg.zero).joins (L.getD (i + 1) Rg.zero) = false)
  | [], _, _, i, hi => absurd hi (Nat.not_lt_zero _)
  | r :: l, e, h, 0, _ => by
    rw [getD_zero, getD_succ]
    refine ⟨h.1.2, can_end l r.tt h.2.1, fun _ => h.1.1, fun q => ?_⟩
    cases l with
    | nil => simp at q
    | cons d l' => exact ⟨h.2.1.1.1, h.2.2 d rfl⟩
  | r :: l, e, h, i + 1, hi => by
    have := can_idx l r.tt h.2.1 i (by simpa using hi)
    rw [getD_succ, getD_succ]
    exact ⟨this.1, this.2.1, fun q => by omega, fun q => this.2.2.2 (by simpa using q)⟩
theorem can_good {L : List Rg} (h : Can 0 L) (h1 : endL 0 L ≤ 34359738368) (h2 : L.length ≤ 64) : goodB L = true := by
  unfold goodB
  rw [Bool.and_eq_true, allB_iff]
  refine ⟨by simpa using h2, fun i hi => ?_⟩
  have a := can_idx L 0 h i hi
  unfold okAt
  cases i with
  | zero =>
    have z := a.2.2.1 rfl
    have e0 : endAt L 0 = 0 := rfl
    have j0 : jnAt L 0 = false := rfl
    rw [e0, j0]
    generalize L.getD 0 Rg.zero = r at a z
    unfold okR
    simp
    omega
  | succ n =>
    have b := (can_idx L 0 h n (by omega)).2.2.2 hi
    have e0 : endAt L (n + 1) = (L.getD n Rg.zero).tt := rfl
    have j0 : jnAt L (n + 1) = (L.getD n Rg.zero).joins (L.getD (n + 1) Rg.zero) := rfl
    rw [e0, j0, b.2]
    generalize L.getD n Rg.zero = q at b
    generalize L.getD (n + 1) Rg.zero = r at a b
    unfold okR
    simp
    omega
theorem can_split : ∀ (A B : List Rg) (e : Int), Can e (A ++ B) → Can e A ∧ Can (endL e A) B
  | [], B, e, h => ⟨trivial, h⟩
  | r :: l, B, e, h => by
    obtain ⟨a, b⟩ := can_split l B r.tt h.2.1
    refine ⟨⟨h.1, a, fun c hc => h.2.2 c ?_⟩, b⟩
    cases l with
    | nil => simp at hc
    | cons d l' => simpa using hc
/-- a change within pages: gg says what a page becomes -/
def SemG (G : Rg → Rg) (gg : Att → Option Att) (f t : Int) : Prop := ∀ r : Rg, ((G (r.mid f t)).fr < (G (r.mid f t)).tt → (G (r.mid f t)).fr = max r.fr f ∧ (G (r.mid f t)).tt = min r.tt t) ∧ ∀ x, (G (r.mid f t)).pg x = if max r.fr f ≤ x ∧ x < min r.tt t then gg r.att else none
theorem sem_cut (f t : Int) : SemG (fun _ => Rg.zero) (fun _ => none) f t := fun r => ⟨fun h => by unfold Rg.zero at h; simp at h, fun x => by
  have : Rg.zero.pg x = none := by unfold Rg.pg Rg.zero; simp only; rw [if_neg (by omega)]
  rw [this]; split <;> rfl⟩
theorem sem_prot (a b c : Bool) (f t : Int) : SemG (fun r => r.may a b c) (fun v => some (a, b, c, v.2.2.2)) f t := fun r => ⟨fun _ => ⟨rfl, rfl⟩, fun x => rfl⟩
theorem part_can {G : Rg → Rg} {gg : Att → Option Att} {f t : Int} (hft : f ≤ t) (hG : SemG G gg f t) (M : List Rg) (e : Int) (r : Rg) (h : Can e M) (h1 : endL e M ≤ r.fr) (h2 : r.fr < r.tt) :
    Can e (part G f t M r) ∧ endL e (part G f t M r) ≤ r.tt ∧ (∀ x, atR (part G f t M r) x = (atR M x).or (if r.fr ≤ x ∧ x < r.tt then (if f ≤ x ∧ x < t then gg r.att else some r.att) else none)) ∧ ∀ p q, cntR p q (part G f t M r) = cntR p q (withL (withL (withL M (r.upto (min r.tt f))) (G (r.mid f t))) (r.from (max r.fr t))) := by
  obtain ⟨g1, g2⟩ := hG r
  obtain ⟨a1, a2, a3⟩ := with_can M e (r.upto (min r.tt f)) h (fun _ => h1)
  have a2' : endL e (withL M (r.upto (min r.tt f))) = if r.fr < min r.tt f then min r.tt f else endL e M := a2
  have ea : endL e (withL M (r.upto (min r.tt f))) ≤ max r.fr f ∧ endL e (withL M (r.upto (min r.tt f))) ≤ r.tt := by rw [a2']; split <;> omega
  obtain ⟨b1, b2, b3⟩ := with_can (withL M (r.upto (min r.tt f))) e (G (r.mid f t)) a1 (fun q => by have := g1 q; omega)
  have eb : endL e (withL (withL M (r.upto (min r.tt f))) (G (r.mid f t))) ≤ max r.fr t ∧ endL e (withL (withL M (r.upto (min r.tt f))) (G (r.mid f t))) ≤ r.tt := by
    rw [b2]
    by_cases q : (G (r.mid f t)).fr < (G (r.mid f t)).tt
    · have := g1 q; rw [if_pos q]; omega
    · rw [if_neg q]; omega
  obtain ⟨c1, c2, c3⟩ := with_can _ e (r.from (max r.fr t)) b1 (fun _ => eb.1)
  refine ⟨c1, ?_, fun x => ?_, fun _ _ => rfl⟩
  · show endL e (withL _ _) ≤ _
    rw [c2]
    have : (r.from (max r.fr t)).tt = r.tt := rfl
    split <;> omega
  · show atR (withL _ _) x = _
    rw [c3, b3, a3, g2, or_assoc4, or_assoc4]
    congr 1
    have p1 : (r.upto (min r.tt f)).pg x = if r.fr ≤ x ∧ x < min r.tt f then some r.att else none := rfl
    have p3 : (r.from (max r.fr t)).pg x = if max r.fr t ≤ x ∧ x < r.tt then some r.att else none := rfl
    rw [p1, p3]
    by_cases k0 : r.fr ≤ x ∧ x < r.tt
    · rw [if_pos k0]
      by_cases k1 : f ≤ x
      · by_cases k2 : x < t
        · rw [if_pos (show f ≤ x ∧ x < t from ⟨k1, k2⟩), if_neg (by omega), if_pos (by omega), if_neg (by omega)]
          cases gg r.att <;> rfl
        · rw [if_neg (show ¬ (f ≤ x ∧ x < t) by omega), if_neg (by omega), if_neg (by omega), if_pos (by omega)]; rfl
      · rw [if_neg (show ¬ (f ≤ x ∧ x < t) by omega), if_pos (by omega)]; rfl
    · rw [if_neg k0, if_neg (by omega), if_neg (by omega), if_neg (by omega)]; rfl
theorem chg_sem {G : Rg → Rg} {gg : Att → Option Att} {f t : Int} (hft : f ≤ t) (hG : SemG G gg f t) : ∀ (L M : List Rg) (e e' : Int), Can e M → Can e' L → endL e M ≤ e' → Can e (L.foldl (part G f t) M) ∧ endL e (L.foldl (part G f t) M) ≤ endL e' L ∧ ∀ x, atR (L.foldl (part G f t) M) x = (atR M x).or (if f ≤ x ∧ x < t then (atR L x).bind gg else atR L x)
  | [], M, e, e', h, _, he => ⟨h, he, fun x => by
      show atR M x = (atR M x).or (if f ≤ x ∧ x < t then (none : Option Att).bind gg else none)
      have : (if f ≤ x ∧ x < t then (none : Option Att).bind gg else none) = none := by split <;> rfl
      rw [this]; simp⟩
  | r :: l, M, e, e', h, hl, he => by
    obtain ⟨l1, l2, l3⟩ := hl
    obtain ⟨a1, a2, a3, _⟩ := part_can hft hG M e r h (by omega) l1.2
    obtain ⟨b1, b2, b3⟩ := chg_sem hft hG l (part G f t M r) e r.tt a1 l2 a2
    refine ⟨b1, b2, fun x => ?_⟩
    show atR (l.foldl (part G f t) (part G f t M r)) x = _
    rw [b3, a3, or_assoc4]
    congr 1
    have e1 : atR (r :: l) x = if r.fr ≤ x ∧ x < r.tt then some r.att else atR l x := rfl
    rw [e1]
    by_cases c : r.fr ≤ x ∧ x < r.tt
    · rw [if_pos c, if_pos c, at_low l r.tt x l2 c.2]
      by_cases d : f ≤ x ∧ x < t
      · rw [if_pos d, if_pos d, if_pos d]
        show (gg r.att).or none = gg r.att
        cases gg r.att <;> rfl
      · rw [if_neg d, if_neg d, if_neg d]; rfl
    · rw [if_neg c, if_neg c]; rfl
theorem chg_can {G : Rg → Rg} {gg : Att → Option Att} {f t : Int} (hft : f ≤ t) (hG : SemG G gg f t) {L : List Rg} (h : Can 0 L) : Can 0 (chg G f t L) ∧ endL 0 (chg G f t L) ≤ endL 0 L ∧ ∀ x, atR (chg G f t L) x = if f ≤ x ∧ x < t then (atR L x).bind gg else atR L x := by
  obtain ⟨a, b, c⟩ := chg_sem hft hG L [] 0 0 trivial h (Int.le_refl _)
  exact ⟨a, b, fun x => by rw [show chg G f t L = L.foldl (part G f t) [] from rfl, c]; rfl⟩
/-- the regions ahead, and those behind -/
theorem ahead_take (f : Int) : ∀ L : List Rg, L.take (aheadN L f) = L.takeWhile (lowR f) ∧ L.drop (aheadN L f) = L.dropWhile (lowR f)
  | [] => ⟨rfl, rfl⟩
  | r :: l => by
    obtain ⟨a, b⟩ := ahead_take f l
    unfold aheadN at a b ⊢
    by_cases c : lowR f r = true
    · rw [List.takeWhile_cons_of_pos c, List.dropWhile_cons_of_pos c, List.length_cons, List.take_succ_cons, List.drop_succ_cons, a, b]; exact ⟨rfl, rfl⟩
    · rw [List.takeWhile_cons_of_neg c, List.dropWhile_cons_of_neg c]; exact ⟨rfl, rfl⟩
theorem end_tw (f : Int) : ∀ (L : List Rg) (e : Int), e ≤ f → endL e (L.takeWhile (lowR f)) ≤ f
  | [], e, h => h
  | r :: l, e, h => by
    by_cases c : lowR f r = true
    · rw [List.takeWhile_cons_of_pos c]
      exact end_tw f l r.tt (by unfold lowR at c; simpa using c)
    · rw [List.takeWhile_cons_of_neg c]; exact h
theorem len_nn (r : Rg) (p q : Int) : 0 ≤ r.len p q := by unfold Rg.len; split <;> omega
theorem cnt_nn (p q : Int) : ∀ L : List Rg, 0 ≤ cntR p q L
  | [] => Int.le_refl _
  | r :: l => by have := cnt_nn p q l; have := len_nn r p q; show 0 ≤ r.len p q + cntR p q l; omega
theorem drop_head (f : Int) (c : Rg) (B : List Rg) : ∀ L : List Rg, L.dropWhile (lowR f) = c :: B → f < c.tt
  | [], h => by simp at h
  | r :: l, h => by
    by_cases k : lowR f r = true
    · rw [List.dropWhile_cons_of_pos k] at h; exact drop_head f c B l h
    · rw [List.dropWhile_cons_of_neg k] at h
      have : r = c := (List.cons.inj h).1
      subst this
      unfold lowR at k
      simpa using k
theorem add_can {L : List Rg} (h : Can 0 L) (r : Rg) (h0 : 0 ≤ r.fr) (h1 : r.fr < r.tt) (hz : ¬ 0 < cntR r.fr r.tt L) : Can 0 (addL L r) ∧ endL 0 (addL L r) ≤ max r.tt (endL 0 L) ∧ ∀ x, atR (addL L r) x = if r.fr ≤ x ∧ x < r.tt then some r.att else atR L x := by
  obtain ⟨t1, t2⟩ := ahead_take r.fr L
  unfold addL
  rw [t1, t2]
  have eL : L = L.takeWhile (lowR r.fr) ++ L.dropWhile (lowR r.fr) := (List.takeWhile_append_dropWhile).symm
  have eA := end_tw r.fr L 0 h0
  have hd := drop_head r.fr
  generalize hA : L.takeWhile (lowR r.fr) = A at eL eA ⊢
  generalize hB : L.dropWhile (lowR r.fr) = B at eL ⊢
  rw [eL] at h hz
  obtain ⟨s1, s2⟩ := can_split A B 0 h
  obtain ⟨p1, p2, p3⟩ := pre_can A [] 0 trivial s1
  have p2' : endL 0 (preL [] A) = endL 0 A := p2
  obtain ⟨w1, w2, w3⟩ := with_can (preL [] A) 0 r p1 (fun _ => by omega)
  rw [if_pos h1] at w2
  have cB : Can r.tt B ∧ (B = [] ∨ ∃ c B', B = c :: B' ∧ r.tt ≤ c.fr) := by
    cases B with
    | nil => exact ⟨trivial, Or.inl rfl⟩
    | cons c B' =>
      have k1 := hd c B' L hB
      have k2 := s2.1
      have k3 : c.len r.fr r.tt = 0 := by
        rw [cntR_append] at hz
        have z1 := cnt_nn r.fr r.tt A
        have z2 := cnt_nn r.fr r.tt B'
        have z3 := len_nn c r.fr r.tt
        have z4 : cntR r.fr r.tt (c :: B') = c.len r.fr r.tt + cntR r.fr r.tt B' := rfl
        omega
      have k4 : r.tt ≤ c.fr := by
        unfold Rg.len at k3
        by_cases q : max c.fr r.fr < min c.tt r.tt
        · rw [if_pos q] at k3; omega
        · omega
      exact ⟨⟨⟨k4, k2.2⟩, s2.2.1, s2.2.2⟩, Or.inr ⟨c, B', rfl, k4⟩⟩
  obtain ⟨q1, q2, q3⟩ := pre_can B (withL (preL [] A) r) 0 w1 (by rw [w2]; exact cB.1)
  rw [w2] at q2
  refine ⟨q1, ?_, fun x => ?_⟩
  · rw [q2, eL]
    cases B with
    | nil => show r.tt ≤ _; omega
    | cons c B' =>
      have : ∀ (A : List Rg) (e : Int), endL e (A ++ c :: B') = endL c.tt B' := fun A => by
        induction A with
        | nil => intro e; rfl
        | cons a A ih => intro e; exact ih a.tt
      rw [this]; show endL c.tt B' ≤ _; omega
  · rw [q3, w3, p3, eL, at_append]
    show ((((none : Option Att).or (atR A x)).or (r.pg x)).or (atR B x)) = _
    unfold Rg.pg
    by_cases c : r.fr ≤ x ∧ x < r.tt
    · rw [if_pos c, if_pos c, at_high A 0 x s1 (by omega)]; rfl
    · rw [if_neg c, if_neg c]
      cases atR A x <;> rfl
end Go.Proofs.YtkiclbnbnjbcaabDoor.Re
namespace Go.Proofs.YtkiclbnbnjbcaabDoor.Re
open Go.ChangeShapes Go.WideShapes Go.ChangeAt Go.RowKit Go.Maps
set_option linter.unusedSimpArgs false
set_option linter.unusedVariables false
set_option maxRecDepth 8000

set_option maxHeartbeats 8000000 in
theorem change_cut (p : Option Addr) (c : Nat) (L : List Rg) (hL : L.length ≤ 100) (qf qt : Int) (w : World) (h : LowL w w.heap.size p L) :
    Calls Tryd.prog 29 #[.slice p L.length c, rgV qf qt, .func (.func 30) #[] #[]] w fun e w' => ∃ v er, e = .returned (.tuple #[v, .int .i64 er]) ∧ Res w' w.heap.size v er (chg (fun _ => Rg.zero) qf qt L) ∧ Below w.heap.size w w' := by
  have HI : Hid (LowL w (w.heap.size + 1) p L) := h.weak (by omega)
  have CM : Hid (∀ (a1 a2 : Int) (W : World), Calls Tryd.prog 41 #[rgV a1 a2, rgV qf qt] W fun e w' => e = .returned (rgV (max a1 qf) (min a2 qt)) ∧ Below W.heap.size W w') := fun a1 a2 W => common_any a1 a2 qf qt W
  have WI : Hid (∀ (base : Nat) (v : Value) (M : List Rg), M.length ≤ 1000 → ∀ (r : Rg) (W : World), base ≤ W.heap.size → OwnL W base v M → Calls Tryd.prog 27 #[v, r.val] W fun e w' => ∃ v', e = .returned v' ∧ OwnL w' base v' (withL M r) ∧ WithK W w' v v') := fun base v M hM r W hW ho => with_any base v M hM r W hW ho
  have FY : Hid (∀ (q : Option Addr) (n d : Nat), n ≤ 64 → ∀ W : World, Calls Tryd.prog 28 #[.slice q n d] W fun e w' => e = .returned (.tuple #[.slice q n d, .int .i64 0]) ∧ Below W.heap.size W w') := fun q n d hn W => few_yes q n d hn W
  have FN : Hid (∀ (q : Option Addr) (n d : Nat), 64 < n → n ≤ 1000 → ∀ W : World, Calls Tryd.prog 28 #[.slice q n d] W fun e w' => e = .returned (.tuple #[.slice none 0 0, .int .i64 4]) ∧ Below W.heap.size W w') := fun q n d hn hm W => few_no q n d hn hm W
  have CL : Hid (∀ (r : Rg) (W : World), True → Calls Tryd.prog 30 #[r.val] W fun e w' => e = .returned Rg.zero.val ∧ Below W.heap.size W w') := fun r W _ => cut_cl r W
  have HK : Hid (∀ W : World, Below (w.heap.size + 1) (w.alloc (.cells #[.int .i64 qf, .int .i64 qt] 42)) W → True) := fun _ _ => trivial
  have w0 : Hid (LowL (w.alloc (.cells #[.int .i64 qf, .int .i64 qt] 42)) (w.heap.size + 1) p L) := (h.low (Go.Joins.below_alloc1 _ _)).weak (by omega)
  clear h HI
  obtain ⟨W0, hW0⟩ : ∃ W0, w.alloc (.cells #[.int .i64 qf, .int .i64 qt] 42) = W0 := ⟨_, rfl⟩
  rw [hW0] at w0 HK
  have Z0 : Hid (W0.heap.size = w.heap.size + 1 ∧ Below w.heap.size w W0 ∧ W0.cell? ⟨w.heap.size, 0, none⟩ = some (.int .i64 qf) ∧ W0.cell? ⟨w.heap.size, 1, none⟩ = some (.int .i64 qt)) := by
    show _ ∧ _ ∧ _ ∧ _
    rw [← hW0]
    exact ⟨by rw [World.size_alloc], Go.Joins.below_alloc1 _ _, by simp, by simp⟩
  have HW0 : Hid (w.alloc (.cells #[.int .i64 qf, .int .i64 qt] 42) = W0) := hW0
  clear hW0
  go_enter Tryd.func29, Tryd.ntmps29
  go_wp2_with fail
  go_loopw [8, 16] (fun v x W => ∃ m : Nat, m ≤ L.length ∧ x = .int .i64 m ∧ Hid (OwnL W (w.heap.size + 1) v (chg (fun _ => Rg.zero) qf qt (L.take m))) ∧ Hid (Below (w.heap.size + 1) W0 W)) (fun _ x _ => L.length - (intOf x).toNat)
  case atStart => exact ⟨0, by omega, rfl, ⟨by simp [chg], Or.inl ⟨rfl, rfl⟩⟩, by rw [HW0.out]; exact Below.refl _ _⟩
  case round =>
    obtain ⟨m, hm, rfl, hO, hB⟩ := hrel
    by_cases hlm : m < L.length
    · have hd : decide ((m : Int) < (L.length : Int)) = true := by simp; omega
      obtain ⟨gl, rfl, gl1, gc⟩ := (w0.out.low hB.out) m hlm
      have NX : Hid (chg (fun _ => Rg.zero) qf qt (L.take (m + 1)) = part (fun _ => Rg.zero) qf qt (chg (fun _ => Rg.zero) qf qt (L.take m)) (L.getD m Rg.zero)) := chg_next _ qf qt L m hlm
      have LN : Hid ((chg (fun _ => Rg.zero) qf qt (L.take m)).length ≤ 300) := Nat.le_trans (chg_len _ qf qt L m hm) (by omega)
      generalize L.getD m Rg.zero = rr at gc NX
      generalize chg (fun _ => Rg.zero) qf qt (L.take m) = M at hO NX LN
      obtain ⟨r1, r2, r3, r4, r5, r6⟩ := rr
      have y0 : wr.cell? ⟨gl, m * 6, none⟩ = some (.int .i64 r1) := gc 0 _ rfl
      have y1 : wr.cell? ⟨gl, m * 6 + 1, none⟩ = some (.int .i64 r2) := gc 1 _ rfl
      have y2 : wr.cell? ⟨gl, m * 6 + 2, none⟩ = some (.bool r3) := gc 2 _ rfl
      have y3 : wr.cell? ⟨gl, m * 6 + 3, none⟩ = some (.bool r4) := gc 3 _ rfl
      have y4 : wr.cell? ⟨gl, m * 6 + 4, none⟩ = some (.bool r5) := gc 4 _ rfl
      have y5 : wr.cell? ⟨gl, m * 6 + 5, none⟩ = some (.int .i64 r6) := gc 5 _ rfl
      clear gc
      have CR : Hid _ := CM.out r1 r2
      unfold part Rg.mid Rg.from Rg.upto at NX
      simp only at NX
      obtain ⟨am, ham⟩ : ∃ x, min r2 qf = x := ⟨_, rfl⟩
      obtain ⟨mf, hmf⟩ : ∃ x, max r1 qf = x := ⟨_, rfl⟩
      obtain ⟨mt, hmt⟩ : ∃ x, min r2 qt = x := ⟨_, rfl⟩
      obtain ⟨bf, hbf⟩ : ∃ x, max r1 qt = x := ⟨_, rfl⟩
      rw [ham, hbf] at NX
      rw [hmf, hmt] at CR
      have HAM : Hid (min r2 qf = am) := ham
      have HBF : Hid (max r1 qt = bf) := hbf
      clear ham hmf hmt hbf CM
      have b0 : wr.cell? ⟨w.heap.size, 0, none⟩ = some (.int .i64 qf) := (hB.out.cell (p := ⟨w.heap.size, 0, none⟩) (by show w.heap.size < _; omega)).trans Z0.out.2.2.1
      have b1 : wr.cell? ⟨w.heap.size, 1, none⟩ = some (.int .i64 qt) := (hB.out.cell (p := ⟨w.heap.size, 1, none⟩) (by show w.heap.size < _; omega)).trans Z0.out.2.2.2
      have lw : w.heap.size < wr.heap.size := Nat.lt_of_lt_of_le (by rw [Z0.out.1]; omega) hB.out.size
      have KF : Hid (wr.cell? ⟨w.heap.size, 0, none⟩ = some (.int .i64 qf) ∧ wr.cell? ⟨w.heap.size, 1, none⟩ = some (.int .i64 qt)) := ⟨b0, b1⟩
      obtain ⟨s, hs⟩ : ∃ s, wr.heap.size = s := ⟨_, rfl⟩
      have HS : Hid (wr.heap.size = s) := hs
      clear hs b0 b1
      go_upto_region 5 with fail
      go_cut [11, 12, 13] (fun a b d wx => ∃ A B D : Nat, a = .pointer (some ⟨A, 0, none⟩) ∧ b = .pointer (some ⟨B, 0, none⟩) ∧ d = .pointer (some ⟨D, 0, none⟩) ∧ (wr.heap.size < A ∧ wr.heap.size < B ∧ wr.heap.size < D ∧ A ≠ B ∧ A ≠ D ∧ B ≠ D) ∧ wx = ((((wr.alloc (.cells #[.int .i64 r1, .int .i64 r2, .bool r3, .bool r4, .bool r5, .int .i64 r6] 46)).alloc (.cells #[.int .i64 r1, .int .i64 r2, .bool r3, .bool r4, .bool r5, .int .i64 r6] 46)).alloc (.cells #[.int .i64 r1, .int .i64 r2, .bool r3, .bool r4, .bool r5, .int .i64 r6] 46)).alloc (.cells #[.int .i64 r1, .int .i64 r2, .bool r3, .bool r4, .bool r5, .int .i64 r6] 46)).drew ∧ A ≤ wr.heap.size + 3 ∧ B ≤ wr.heap.size + 3 ∧ D ≤ wr.heap.size + 3)
      case first =>
        go_region
        all_goals (try go_wp2_with fail)
        all_goals go_meet
        all_goals exact ⟨_, _, _, rfl, rfl, rfl, ⟨by omega, by omega, by omega, by omega, by omega, by omega⟩, rfl, by omega, by omega, by omega⟩
      case rest =>
        obtain ⟨A, B, D, rfl, rfl, rfl, ⟨lA, lB, lD, nAB, nAD, nBD⟩, ewc, hA3, hB3, hD3⟩ := hcut
        have FS : Hid (wc.heap[wr.heap.size]? = some (.cells #[.int .i64 r1, .int .i64 r2, .bool r3, .bool r4, .bool r5, .int .i64 r6] 46 (0, 0))) := by show _ = _; rw [ewc]; exact four_block wr _ _ (by omega) (by omega)
        have FA : Hid (wc.heap[A]? = some (.cells #[.int .i64 r1, .int .i64 r2, .bool r3, .bool r4, .bool r5, .int .i64 r6] 46 (0, 0))) := by show _ = _; rw [ewc]; exact four_block wr _ _ (by omega) (by omega)
        have FB : Hid (wc.heap[B]? = some (.cells #[.int .i64 r1, .int .i64 r2, .bool r3, .bool r4, .bool r5, .int .i64 r6] 46 (0, 0))) := by show _ = _; rw [ewc]; exact four_block wr _ _ (by omega) (by omega)
        have FD : Hid (wc.heap[D]? = some (.cells #[.int .i64 r1, .int .i64 r2, .bool r3, .bool r4, .bool r5, .int .i64 r6] 46 (0, 0))) := by show _ = _; rw [ewc]; exact four_block wr _ _ (by omega) (by omega)
        have BW : Hid (Below wr.heap.size wr wc) := by show Below _ _ _; rw [ewc]; exact below_drew (below_new (Go.Joins.below_alloc3 _ _ _ _) _)
        clear ewc hA3 hB3 hD3
        have s0 : wc.cell? ⟨wr.heap.size, 0, none⟩ = some (.int .i64 r1) := Go.Joins.cell_of_block FS.out 0
        have s1 : wc.cell? ⟨wr.heap.size, 1, none⟩ = some (.int .i64 r2) := Go.Joins.cell_of_block FS.out 1
        have a1 : wc.cell? ⟨A, 1, none⟩ = some (.int .i64 r2) := Go.Joins.cell_of_block FA.out 1
        have fa : wc.frozen? ⟨A, 1, none⟩ = false := Go.Joins.unfrozen_of_block FA.out 1
        have p0 : wc.cell? ⟨w.heap.size, 0, none⟩ = some (.int .i64 qf) := (BW.out.cell (p := ⟨w.heap.size, 0, none⟩) lw).trans KF.out.1
        have p1 : wc.cell? ⟨w.heap.size, 1, none⟩ = some (.int .i64 qt) := (BW.out.cell (p := ⟨w.heap.size, 1, none⟩) lw).trans KF.out.2
        clear y0 y1 y2 y3 y4 y5
        go_wp2_with (refine min_pat (x := .tmp 25) (y := .tmp 27) r2 qf am HAM.out rfl rfl ?_)
        refine (CR.out _).mono ?_
        rintro e u1 ⟨rfl, hb1⟩
        have zs := (grown_setCell1 wc A 1 (.int .i64 am)).size
        have GA : Hid (u1.heap[A]? = some (.cells #[.int .i64 r1, .int .i64 am, .bool r3, .bool r4, .bool r5, .int .i64 r6] 46 (0, 0))) := (hb1.block A (Nat.lt_of_lt_of_le (blk_lt FA.out) zs)).trans (set_same FA.out rfl)
        have GB : Hid (u1.heap[B]? = some (.cells #[.int .i64 r1, .int .i64 r2, .bool r3, .bool r4, .bool r5, .int .i64 r6] 46 (0, 0))) := (hb1.block B (Nat.lt_of_lt_of_le (blk_lt FB.out) zs)).trans ((set_block (by omega)).trans FB.out)
        have GD : Hid (u1.heap[D]? = some (.cells #[.int .i64 r1, .int .i64 r2, .bool r3, .bool r4, .bool r5, .int .i64 r6] 46 (0, 0))) := (hb1.block D (Nat.lt_of_lt_of_le (blk_lt FD.out) zs)).trans ((set_block (by omega)).trans FD.out)
        have GS : Hid (u1.heap[wr.heap.size]? = some (.cells #[.int .i64 r1, .int .i64 r2, .bool r3, .bool r4, .bool r5, .int .i64 r6] 46 (0, 0))) := (hb1.block _ (Nat.lt_of_lt_of_le (blk_lt FS.out) zs)).trans ((set_block (by omega)).trans FS.out)
        have BU : Hid (Below wr.heap.size wr u1) := below_then (BW.out.setCell (p := ⟨A, 1, none⟩) (Nat.le_of_lt lA) _) hb1
        clear hb1 zs s0 s1 a1 fa p0 p1 FS FA FB FD BW
        have s0 : u1.cell? ⟨wr.heap.size, 0, none⟩ = some (.int .i64 r1) := Go.Joins.cell_of_block GS.out 0
        have e0 : u1.cell? ⟨B, 0, none⟩ = some (.int .i64 r1) := Go.Joins.cell_of_block GB.out 0
        have e1 : u1.cell? ⟨B, 1, none⟩ = some (.int .i64 r2) := Go.Joins.cell_of_block GB.out 1
        have f0 : u1.frozen? ⟨B, 0, none⟩ = false := Go.Joins.unfrozen_of_block GB.out 0
        have f1 : u1.frozen? ⟨B, 1, none⟩ = false := Go.Joins.unfrozen_of_block GB.out 1
        have d0 : u1.cell? ⟨D, 0, none⟩ = some (.int .i64 r1) := Go.Joins.cell_of_block GD.out 0
        have k0 : u1.frozen? ⟨D, 0, none⟩ = false := Go.Joins.unfrozen_of_block GD.out 0
        have p1 : u1.cell? ⟨w.heap.size, 1, none⟩ = some (.int .i64 qt) := (BU.out.cell (p := ⟨w.heap.size, 1, none⟩) lw).trans KF.out.2
        go_wp2_with (refine max_pat (x := .tmp 38) (y := .tmp 40) r1 qt bf HBF.out rfl rfl ?_)
        obtain ⟨X, hX⟩ : ∃ X, ((u1.setCell ⟨B, 0, none⟩ (.int .i64 mf)).setCell ⟨B, 1, none⟩ (.int .i64 mt)).setCell ⟨D, 0, none⟩ (.int .i64 bf) = X := ⟨_, rfl⟩
        have XA : Hid (X.heap[A]? = some (.cells #[.int .i64 r1, .int .i64 am, .bool r3, .bool r4, .bool r5, .int .i64 r6] 46 (0, 0))) := by show _ = _; rw [← hX, set_block (by omega), set_block (by omega), set_block (by omega)]; exact GA.out
        have XB : Hid (X.heap[B]? = some (.cells #[.int .i64 mf, .int .i64 mt, .bool r3, .bool r4, .bool r5, .int .i64 r6] 46 (0, 0))) := by show _ = _; rw [← hX, set_block (by omega)]; exact set_same (set_same GB.out rfl) rfl
        have XD : Hid (X.heap[D]? = some (.cells #[.int .i64 bf, .int .i64 r2, .bool r3, .bool r4, .bool r5, .int .i64 r6] 46 (0, 0))) := by show _ = _; rw [← hX]; exact set_same ((set_block (by omega)).trans ((set_block (by omega)).trans GD.out)) rfl
        have BX : Hid (Below wr.heap.size wr X) := by show Below _ _ _; rw [← hX]; exact ((BU.out.setCell (p := ⟨B, 0, none⟩) (Nat.le_of_lt lB) _).setCell (p := ⟨B, 1, none⟩) (Nat.le_of_lt lB) _).setCell (p := ⟨D, 0, none⟩) (Nat.le_of_lt lD) _
        rw [hX]
        clear hX GA GB GD GS BU s0 e0 e1 f0 f1 d0 k0 p1
        have NA : Hid (u8.ownBlock ≠ some A) := blk_ne (c := 0) hO.out (Nat.le_of_lt lA)
        have NB : Hid (u8.ownBlock ≠ some B) := blk_ne (c := 0) hO.out (Nat.le_of_lt lB)
        have ND : Hid (u8.ownBlock ≠ some D) := blk_ne (c := 0) hO.out (Nat.le_of_lt lD)
        have OU : Hid (OwnL X.drew (w.heap.size + 1) u8 M) := OwnL.below hO.out (below_drew BX.out)
        have BB : Hid (Below (w.heap.size + 1) W0 X.drew) := hB.out.trans (Go.Joins.below_le (below_drew BX.out) (by omega))
        have lAX : A < X.drew.heap.size := blk_lt XA.out
        have lBX : B < X.drew.heap.size := blk_lt XB.out
        have lDX : D < X.drew.heap.size := blk_lt XD.out
        refine wp_region_noPanic ?_
        refine wp_region_held_drew (S := fun c => c.heap[A]? = some (.cells #[.int .i64 r1, .int .i64 am, .bool r3, .bool r4, .bool r5, .int .i64 r6] 46 (0, 0)) ∧ c.heap[B]? = some (.cells #[.int .i64 mf, .int .i64 mt, .bool r3, .bool r4, .bool r5, .int .i64 r6] 46 (0, 0)) ∧ c.heap[D]? = some (.cells #[.int .i64 bf, .int .i64 r2, .bool r3, .bool r4, .bool r5, .int .i64 r6] 46 (0, 0))) (by kernel_rfl) ?_ (fun hHeld => ?_)
        · exact ⟨XA.out, XB.out, XD.out⟩
        refine wpAnyH_take (i := 0) (oi := ⟨some 44, _, _, _, _, none⟩) (v := ?_) rfl (by kernel_rfl) (by kernel_rfl) (by kernel_rfl) (fun _ _ _ h => h) (Or.inl ⟨by rfl, ?_⟩) (by assumption) ?_
        rotate_left
        · intro w hSw; (try dsimp only at hSw); go_simp; (try with_reducible rfl)
        try simp only [Act.put, List.setIfInBounds_toArray, List.set_cons_zero, List.set_cons_succ]
        refine wpAnyH_take (i := 1) (oi := ⟨some 45, _, _, _, _, none⟩) (v := .agg #[.int .i64 r1, .int .i64 am, .bool r3, .bool r4, .bool r5, .int .i64 r6]) rfl (by kernel_rfl) (by kernel_rfl) (by kernel_rfl) (fun _ _ _ h => h) (Or.inl ⟨by rfl, ?_⟩) (by assumption) ?_
        · intro w hSw; (try dsimp only at hSw); have q0 : w.cell? ⟨A, 0, none⟩ = some (.int .i64 r1) := Go.Joins.cell_of_block hSw.1 0; have q1 : w.cell? ⟨A, 1, none⟩ = some (.int .i64 am) := Go.Joins.cell_of_block hSw.1 1; have q2 : w.cell? ⟨A, 2, none⟩ = some (.bool r3) := Go.Joins.cell_of_block hSw.1 2; have q3 : w.cell? ⟨A, 3, none⟩ = some (.bool r4) := Go.Joins.cell_of_block hSw.1 3; have q4 : w.cell? ⟨A, 4, none⟩ = some (.bool r5) := Go.Joins.cell_of_block hSw.1 4; have q5 : w.cell? ⟨A, 5, none⟩ = some (.int .i64 r6) := Go.Joins.cell_of_block hSw.1 5; go_simp; (try simp)
        try simp only [Act.put, List.setIfInBounds_toArray, List.set_cons_zero, List.set_cons_succ]
        refine wpAnyH_take (i := 3) (oi := ⟨some 47, _, _, _, _, none⟩) (v := ?_) rfl (by kernel_rfl) (by kernel_rfl) (by kernel_rfl) (fun _ _ _ h => h) (Or.inl ⟨by rfl, ?_⟩) (by assumption) ?_
        rotate_left
        · intro w hSw; (try dsimp only at hSw); go_simp; (try with_reducible rfl)
        try simp only [Act.put, List.setIfInBounds_toArray, List.set_cons_zero, List.set_cons_succ]
        refine wpAnyH_take (i := 4) (oi := ⟨some 48, _, _, _, _, none⟩) (v := .agg #[.int .i64 mf, .int .i64 mt, .bool r3, .bool r4, .bool r5, .int .i64 r6]) rfl (by kernel_rfl) (by kernel_rfl) (by kernel_rfl) (fun _ _ _ h => h) (Or.inl ⟨by rfl, ?_⟩) (by assumption) ?_
        · intro w hSw; (try dsimp only at hSw); have q0 : w.cell? ⟨B, 0, none⟩ = some (.int .i64 mf) := Go.Joins.cell_of_block hSw.2.1 0; have q1 : w.cell? ⟨B, 1, none⟩ = some (.int .i64 mt) := Go.Joins.cell_of_block hSw.2.1 1; have q2 : w.cell? ⟨B, 2, none⟩ = some (.bool r3) := Go.Joins.cell_of_block hSw.2.1 2; have q3 : w.cell? ⟨B, 3, none⟩ = some (.bool r4) := Go.Joins.cell_of_block hSw.2.1 3; have q4 : w.cell? ⟨B, 4, none⟩ = some (.bool r5) := Go.Joins.cell_of_block hSw.2.1 4; have q5 : w.cell? ⟨B, 5, none⟩ = some (.int .i64 r6) := Go.Joins.cell_of_block hSw.2.1 5; go_simp; (try simp)
        try simp only [Act.put, List.setIfInBounds_toArray, List.set_cons_zero, List.set_cons_succ]
        refine wpAnyH_take (i := 7) (oi := ⟨some 51, _, _, _, _, none⟩) (v := .agg #[.int .i64 bf, .int .i64 r2, .bool r3, .bool r4, .bool r5, .int .i64 r6]) rfl (by kernel_rfl) (by kernel_rfl) (by kernel_rfl) (fun _ _ _ h => h) (Or.inl ⟨by rfl, ?_⟩) (by assumption) ?_
        · intro w hSw; (try dsimp only at hSw); have q0 : w.cell? ⟨D, 0, none⟩ = some (.int .i64 bf) := Go.Joins.cell_of_block hSw.2.2 0; have q1 : w.cell? ⟨D, 1, none⟩ = some (.int .i64 r2) := Go.Joins.cell_of_block hSw.2.2 1; have q2 : w.cell? ⟨D, 2, none⟩ = some (.bool r3) := Go.Joins.cell_of_block hSw.2.2 2; have q3 : w.cell? ⟨D, 3, none⟩ = some (.bool r4) := Go.Joins.cell_of_block hSw.2.2 3; have q4 : w.cell? ⟨D, 4, none⟩ = some (.bool r5) := Go.Joins.cell_of_block hSw.2.2 4; have q5 : w.cell? ⟨D, 5, none⟩ = some (.int .i64 r6) := Go.Joins.cell_of_block hSw.2.2 5; go_simp; (try simp)
        try simp only [Act.put, List.setIfInBounds_toArray, List.set_cons_zero, List.set_cons_succ]
        clear XA XB XD BX hO hB
        generalize X.drew = U at OU BB lAX lBX lDX hHeld ⊢
        have LENS : Hid (M.length ≤ 1000 ∧ (withL M ⟨r1, am, r3, r4, r5, r6⟩).length ≤ 1000 ∧ (withL (withL M ⟨r1, am, r3, r4, r5, r6⟩) Rg.zero).length ≤ 1000) := by
          have k1 := LN.out
          have k2 := withL_len M ⟨r1, am, r3, r4, r5, r6⟩
          have k3 := withL_len (withL M ⟨r1, am, r3, r4, r5, r6⟩) Rg.zero
          exact ⟨by omega, by omega, by omega⟩
        refine wpAnyH_ready (rs := [2]) (by kernel_rfl) (by simp) ?_
        refine AllReadyH.cons (o := ⟨some 46, _, _, _, _, none⟩) rfl (fun K hK => ?_) AllReadyH.nil
        go_simp
        go_wp2_with (go_at_call 27; refine (WI.out (w.heap.size + 1) u8 M LENS.out.1 ⟨r1, am, r3, r4, r5, r6⟩ _ (by omega) OU.out).mono ?_; rintro e u2 ⟨v1, rfl, ho, hk⟩)
        have Ou2 : Hid (OwnL u2 (w.heap.size + 1) v1 (withL M ⟨r1, am, r3, r4, r5, r6⟩)) := ho
        have Bu2 : Hid (Below (w.heap.size + 1) W0 u2) := BB.out.trans (hk.below OU.out (by omega))
        have xAu2 := (hk.block A lAX NA.out).trans hHeld.1
        have NAu2 : Hid (v1.ownBlock ≠ some A) := hk.ne A lAX NA.out
        have xBu2 := (hk.block B lBX NB.out).trans hHeld.2.1
        have NBu2 : Hid (v1.ownBlock ≠ some B) := hk.ne B lBX NB.out
        have xDu2 := (hk.block D lDX ND.out).trans hHeld.2.2
        have NDu2 : Hid (v1.ownBlock ≠ some D) := hk.ne D lDX ND.out
        have zs := hk.1.size
        have lAY : A < u2.heap.size := Nat.lt_of_lt_of_le lAX zs
        have lBY : B < u2.heap.size := Nat.lt_of_lt_of_le lBX zs
        have lDY : D < u2.heap.size := Nat.lt_of_lt_of_le lDX zs
        clear ho hk NA NB ND zs lAX lBX lDX OU BB
        have NA : Hid _ := NAu2.out
        have lAX := lAY
        have NB : Hid _ := NBu2.out
        have lBX := lBY
        have ND : Hid _ := NDu2.out
        have lDX := lDY
        clear NAu2 lAY NBu2 lBY NDu2 lDY
        clear hHeld
        refine hK.out _ _ ⟨xAu2, xBu2, xDu2⟩ (fun hHeld => ?_)
        clear hK K xAu2 xBu2 xDu2
        try simp only [Act.put, List.setIfInBounds_toArray, List.set_cons_zero, List.set_cons_succ]
        refine wpAnyH_ready (rs := [5]) (by kernel_rfl) (by simp) ?_
        refine AllReadyH.cons (o := ⟨some 49, _, _, _, _, none⟩) rfl (fun K hK => ?_) AllReadyH.nil
        go_simp
        go_wp2_with (go_at_call 30; refine (CL.out ⟨mf, mt, r3, r4, r5, r6⟩ _ (HK.out _ Bu2.out)).mono ?_; rintro e u3 ⟨rfl, hb3⟩)
        have Ou3 : Hid (OwnL u3 (w.heap.size + 1) v1 (withL M ⟨r1, am, r3, r4, r5, r6⟩)) := OwnL.below Ou2.out hb3
        have Bu3 : Hid (Below (w.heap.size + 1) W0 u3) := Bu2.out.trans (Go.Joins.below_le hb3 (by omega))
        have xAu3 := (hb3.block A lAX).trans hHeld.1
        have xBu3 := (hb3.block B lBX).trans hHeld.2.1
        have xDu3 := (hb3.block D lDX).trans hHeld.2.2
        have zs := hb3.size
        have lAY : A < u3.heap.size := Nat.lt_of_lt_of_le lAX zs
        have lBY : B < u3.heap.size := Nat.lt_of_lt_of_le lBX zs
        have lDY : D < u3.heap.size := Nat.lt_of_lt_of_le lDX zs
        clear hb3 zs lAX lBX lDX Ou2 Bu2
        have lAX := lAY
        have lBX := lBY
        have lDX := lDY
        clear lAY lBY lDY
        clear hHeld
        refine hK.out _ _ ⟨xAu3, xBu3, xDu3⟩ (fun hHeld => ?_)
        clear hK K xAu3 xBu3 xDu3
        try simp only [Act.put, List.setIfInBounds_toArray, List.set_cons_zero, List.set_cons_succ]
        refine wpAnyH_ready (rs := [6]) (by kernel_rfl) (by simp) ?_
        refine AllReadyH.cons (o := ⟨some 50, _, _, _, _, none⟩) rfl (fun K hK => ?_) AllReadyH.nil
        go_simp
        go_wp2_with (go_at_call 27; refine (WI.out (w.heap.size + 1) v1 (withL M ⟨r1, am, r3, r4, r5, r6⟩) LENS.out.2.1 Rg.zero _ (by omega) Ou3.out).mono ?_; rintro e u4 ⟨v2, rfl, ho, hk⟩)
        have Ou4 : Hid (OwnL u4 (w.heap.size + 1) v2 (withL (withL M ⟨r1, am, r3, r4, r5, r6⟩) Rg.zero)) := ho
        have Bu4 : Hid (Below (w.heap.size + 1) W0 u4) := Bu3.out.trans (hk.below Ou3.out (by omega))
        have xAu4 := (hk.block A lAX NA.out).trans hHeld.1
        have NAu4 : Hid (v2.ownBlock ≠ some A) := hk.ne A lAX NA.out
        have xBu4 := (hk.block B lBX NB.out).trans hHeld.2.1
        have NBu4 : Hid (v2.ownBlock ≠ some B) := hk.ne B lBX NB.out
        have xDu4 := (hk.block D lDX ND.out).trans hHeld.2.2
        have NDu4 : Hid (v2.ownBlock ≠ some D) := hk.ne D lDX ND.out
        have zs := hk.1.size
        have lAY : A < u4.heap.size := Nat.lt_of_lt_of_le lAX zs
        have lBY : B < u4.heap.size := Nat.lt_of_lt_of_le lBX zs
        have lDY : D < u4.heap.size := Nat.lt_of_lt_of_le lDX zs
        clear ho hk NA NB ND zs lAX lBX lDX Ou3 Bu3
        have NA : Hid _ := NAu4.out
        have lAX := lAY
        have NB : Hid _ := NBu4.out
        have lBX := lBY
        have ND : Hid _ := NDu4.out
        have lDX := lDY
        clear NAu4 lAY NBu4 lBY NDu4 lDY
        clear hHeld
        refine hK.out _ _ ⟨xAu4, xBu4, xDu4⟩ (fun hHeld => ?_)
        clear hK K xAu4 xBu4 xDu4
        try simp only [Act.put, List.setIfInBounds_toArray, List.set_cons_zero, List.set_cons_succ]
        refine wpAnyH_ready (rs := [8]) (by kernel_rfl) (by simp) ?_
        refine AllReadyH.cons (o := ⟨some 52, _, _, _, _, none⟩) rfl (fun K hK => ?_) AllReadyH.nil
        go_simp
        go_wp2_with (go_at_call 27; refine (WI.out (w.heap.size + 1) v2 (withL (withL M ⟨r1, am, r3, r4, r5, r6⟩) Rg.zero) LENS.out.2.2 ⟨bf, r2, r3, r4, r5, r6⟩ _ (by omega) Ou4.out).mono ?_; rintro e u5 ⟨v3, rfl, ho, hk⟩)
        have Ou5 : Hid (OwnL u5 (w.heap.size + 1) v3 (withL (withL (withL M ⟨r1, am, r3, r4, r5, r6⟩) Rg.zero) ⟨bf, r2, r3, r4, r5, r6⟩)) := ho
        have Bu5 : Hid (Below (w.heap.size + 1) W0 u5) := Bu4.out.trans (hk.below Ou4.out (by omega))
        have xAu5 := (hk.block A lAX NA.out).trans hHeld.1
        have NAu5 : Hid (v3.ownBlock ≠ some A) := hk.ne A lAX NA.out
        have xBu5 := (hk.block B lBX NB.out).trans hHeld.2.1
        have NBu5 : Hid (v3.ownBlock ≠ some B) := hk.ne B lBX NB.out
        have xDu5 := (hk.block D lDX ND.out).trans hHeld.2.2
        have NDu5 : Hid (v3.ownBlock ≠ some D) := hk.ne D lDX ND.out
        have zs := hk.1.size
        have lAY : A < u5.heap.size := Nat.lt_of_lt_of_le lAX zs
        have lBY : B < u5.heap.size := Nat.lt_of_lt_of_le lBX zs
        have lDY : D < u5.heap.size := Nat.lt_of_lt_of_le lDX zs
        clear ho hk NA NB ND zs lAX lBX lDX Ou4 Bu4
        have NA : Hid _ := NAu5.out
        have lAX := lAY
        have NB : Hid _ := NBu5.out
        have lBX := lBY
        have ND : Hid _ := NDu5.out
        have lDX := lDY
        clear NAu5 lAY NBu5 lBY NDu5 lDY
        clear hHeld
        refine hK.out _ _ ⟨xAu5, xBu5, xDu5⟩ (fun hHeld => ?_)
        clear hK K xAu5 xBu5 xDu5
        try simp only [Act.put, List.setIfInBounds_toArray, List.set_cons_zero, List.set_cons_succ]
        refine wpAnyH_take (i := 9) (oi := ⟨some 8, _, _, _, _, none⟩) (v := ?_) rfl (by kernel_rfl) (by kernel_rfl) (by kernel_rfl) (fun _ _ _ h => h) (Or.inl ⟨by rfl, ?_⟩) (by assumption) ?_
        rotate_left
        · intro w hSw; (try dsimp only at hSw); go_simp; (try with_reducible rfl)
        try simp only [Act.put, List.setIfInBounds_toArray, List.set_cons_zero, List.set_cons_succ]
        refine wpAnyH_done (by kernel_rfl) ?_ _
        refine NoPanic.normal ?_
        have N2 : Hid (OwnL u5 (w.heap.size + 1) v3 (chg (fun _ => Rg.zero) qf qt (L.take (m + 1)))) := by show OwnL _ _ _ _; rw [NX.out]; exact Ou5.out
        clear NX Ou5
        go_wp2_with fail
        go_roundw
        case rel => exact ⟨m + 1, by omega, by go_num, N2, Bu5⟩
        case measure => simp [intOf]; omega
    · obtain rfl : m = L.length := by omega
      have O1 : Hid (OwnL wr (w.heap.size + 1) u8 (chg (fun _ => Rg.zero) qf qt L)) := by
        have := hO.out
        rw [List.take_length] at this; exact this
      have LN : Hid ((chg (fun _ => Rg.zero) qf qt L).length ≤ 300) := by
        have := chg_len (fun _ => Rg.zero) qf qt L L.length (Nat.le_refl _)
        rw [List.take_length] at this; exact Nat.le_trans this (by omega)
      obtain ⟨q, d, ev, hq⟩ := own_read O1.out
      have BE : Hid (Below w.heap.size w wr) := Z0.out.2.1.trans (Go.Joins.below_le hB.out (by omega))
      obtain ⟨M, hM⟩ : ∃ M, chg (fun _ => Rg.zero) qf qt L = M := ⟨_, rfl⟩
      rw [hM] at O1 LN ev
      have HM : Hid (chg (fun _ => Rg.zero) qf qt L = M) := hM
      clear hM
      clear hO hq
      obtain ⟨n, hn⟩ : ∃ n, M.length = n := ⟨_, rfl⟩
      have HN : Hid (M.length = n) := hn
      rw [hn] at ev LN
      clear hn
      subst ev
      by_cases few : n ≤ 64
      · go_wp2_with fail
        refine (FY.out _ _ _ few _).mono ?_
        rintro e u1 ⟨rfl, hb1⟩
        have B1 : Hid (Below w.heap.size w u1) := below_then BE.out hb1
        have R1 : Hid (Res u1 w.heap.size (.slice q n d) 0 M) := Or.inl ⟨by rw [HN.out]; exact few, rfl, Go.Joins.ownsRow_le (OwnL.below O1.out hb1) (by omega)⟩
        clear hb1
        go_wp2_with fail
        go_returns
        exact ⟨.slice q n d, 0, rfl, by rw [HM.out]; exact R1.out, B1.out⟩
      · go_wp2_with fail
        refine (FN.out _ _ _ (by omega) (Nat.le_trans LN.out (by omega)) _).mono ?_
        rintro e u1 ⟨rfl, hb1⟩
        have B1 : Hid (Below w.heap.size w u1) := below_then BE.out hb1
        have R1 : Hid (Res u1 w.heap.size (.slice none 0 0) 4 M) := Or.inr ⟨by rw [HN.out]; omega, rfl, rfl⟩
        clear hb1
        go_wp2_with fail
        go_returns
        exact ⟨.slice none 0 0, 4, rfl, by rw [HM.out]; exact R1.out, B1.out⟩
end Go.Proofs.YtkiclbnbnjbcaabDoor.Re
namespace Go.Proofs.YtkiclbnbnjbcaabDoor.Re
open Go.ChangeShapes Go.WideShapes Go.ChangeAt Go.RowKit Go.Maps
set_option linter.unusedSimpArgs false
set_option linter.unusedVariables false
set_option maxRecDepth 8000

set_option maxHeartbeats 8000000 in
theorem change_prot (p : Option Addr) (c : Nat) (L : List Rg) (hL : L.length ≤ 100) (qf qt : Int) (w : World) (h : LowL w w.heap.size p L) (B0 : Nat) (pa pb pc : Bool) (hB0 : B0 < w.heap.size) (hp : IsPm w B0 pa pb pc) :
    Calls Tryd.prog 29 #[.slice p L.length c, rgV qf qt, .func (.func 31) #[] #[.pointer (some ⟨B0, 0, none⟩)]] w fun e w' => ∃ v er, e = .returned (.tuple #[v, .int .i64 er]) ∧ Res w' w.heap.size v er (chg (fun r => r.may pa pb pc) qf qt L) ∧ Below w.heap.size w w' := by
  have HI : Hid (LowL w (w.heap.size + 1) p L) := h.weak (by omega)
  have CM : Hid (∀ (a1 a2 : Int) (W : World), Calls Tryd.prog 41 #[rgV a1 a2, rgV qf qt] W fun e w' => e = .returned (rgV (max a1 qf) (min a2 qt)) ∧ Below W.heap.size W w') := fun a1 a2 W => common_any a1 a2 qf qt W
  have WI : Hid (∀ (base : Nat) (v : Value) (M : List Rg), M.length ≤ 1000 → ∀ (r : Rg) (W : World), base ≤ W.heap.size → OwnL W base v M → Calls Tryd.prog 27 #[v, r.val] W fun e w' => ∃ v', e = .returned v' ∧ OwnL w' base v' (withL M r) ∧ WithK W w' v v') := fun base v M hM r W hW ho => with_any base v M hM r W hW ho
  have FY : Hid (∀ (q : Option Addr) (n d : Nat), n ≤ 64 → ∀ W : World, Calls Tryd.prog 28 #[.slice q n d] W fun e w' => e = .returned (.tuple #[.slice q n d, .int .i64 0]) ∧ Below W.heap.size W w') := fun q n d hn W => few_yes q n d hn W
  have FN : Hid (∀ (q : Option Addr) (n d : Nat), 64 < n → n ≤ 1000 → ∀ W : World, Calls Tryd.prog 28 #[.slice q n d] W fun e w' => e = .returned (.tuple #[.slice none 0 0, .int .i64 4]) ∧ Below W.heap.size W w') := fun q n d hn hm W => few_no q n d hn hm W
  have CL : Hid (∀ (r : Rg) (W : World), IsPm W B0 pa pb pc ∧ B0 < W.heap.size → Calls Tryd.prog 31 #[r.val, .pointer (some ⟨B0, 0, none⟩)] W fun e w' => e = .returned (r.may pa pb pc).val ∧ Below W.heap.size W w') := fun r W k => prot_cl r B0 pa pb pc W k.1 k.2
  have HK : Hid (∀ W : World, Below (w.heap.size + 1) (w.alloc (.cells #[.int .i64 qf, .int .i64 qt] 42)) W → IsPm W B0 pa pb pc ∧ B0 < W.heap.size) := fun W q => ⟨(hp.low hB0 (Go.Joins.below_alloc1 _ _)).low (n := w.heap.size + 1) (by omega) q, Nat.lt_of_lt_of_le (by rw [World.size_alloc]; omega) q.size⟩
  clear hp
  have w0 : Hid (LowL (w.alloc (.cells #[.int .i64 qf, .int .i64 qt] 42)) (w.heap.size + 1) p L) := (h.low (Go.Joins.below_alloc1 _ _)).weak (by omega)
  clear h HI
  obtain ⟨W0, hW0⟩ : ∃ W0, w.alloc (.cells #[.int .i64 qf, .int .i64 qt] 42) = W0 := ⟨_, rfl⟩
  rw [hW0] at w0 HK
  have Z0 : Hid (W0.heap.size = w.heap.size + 1 ∧ Below w.heap.size w W0 ∧ W0.cell? ⟨w.heap.size, 0, none⟩ = some (.int .i64 qf) ∧ W0.cell? ⟨w.heap.size, 1, none⟩ = some (.int .i64 qt)) := by
    show _ ∧ _ ∧ _ ∧ _
    rw [← hW0]
    exact ⟨by rw [World.size_alloc], Go.Joins.below_alloc1 _ _, by simp, by simp⟩
  have HW0 : Hid (w.alloc (.cells #[.int .i64 qf, .int .i64 qt] 42) = W0) := hW0
  clear hW0
  go_enter Tryd.func29, Tryd.ntmps29
  go_wp2_with fail
  go_loopw [8, 16] (fun v x W => ∃ m : Nat, m ≤ L.length ∧ x = .int .i64 m ∧ Hid (OwnL W (w.heap.size + 1) v (chg (fun r => r.may pa pb pc) qf qt (L.take m))) ∧ Hid (Below (w.heap.size + 1) W0 W)) (fun _ x _ => L.length - (intOf x).toNat)
  case atStart => exact ⟨0, by omega, rfl, ⟨by simp [chg], Or.inl ⟨rfl, rfl⟩⟩, by rw [HW0.out]; exact Below.refl _ _⟩
  case round =>
    obtain ⟨m, hm, rfl, hO, hB⟩ := hrel
    by_cases hlm : m < L.length
    · have hd : decide ((m : Int) < (L.length : Int)) = true := by simp; omega
      obtain ⟨gl, rfl, gl1, gc⟩ := (w0.out.low hB.out) m hlm
      have NX : Hid (chg (fun r => r.may pa pb pc) qf qt (L.take (m + 1)) = part (fun r => r.may pa pb pc) qf qt (chg (fun r => r.may pa pb pc) qf qt (L.take m)) (L.getD m Rg.zero)) := chg_next _ qf qt L m hlm
      have LN : Hid ((chg (fun r => r.may pa pb pc) qf qt (L.take m)).length ≤ 300) := Nat.le_trans (chg_len _ qf qt L m hm) (by omega)
      generalize L.getD m Rg.zero = rr at gc NX
      generalize chg (fun r => r.may pa pb pc) qf qt (L.take m) = M at hO NX LN
      obtain ⟨r1, r2, r3, r4, r5, r6⟩ := rr
      have y0 : wr.cell? ⟨gl, m * 6, none⟩ = some (.int .i64 r1) := gc 0 _ rfl
      have y1 : wr.cell? ⟨gl, m * 6 + 1, none⟩ = some (.int .i64 r2) := gc 1 _ rfl
      have y2 : wr.cell? ⟨gl, m * 6 + 2, none⟩ = some (.bool r3) := gc 2 _ rfl
      have y3 : wr.cell? ⟨gl, m * 6 + 3, none⟩ = some (.bool r4) := gc 3 _ rfl
      have y4 : wr.cell? ⟨gl, m * 6 + 4, none⟩ = some (.bool r5) := gc 4 _ rfl
      have y5 : wr.cell? ⟨gl, m * 6 + 5, none⟩ = some (.int .i64 r6) := gc 5 _ rfl
      clear gc
      have CR : Hid _ := CM.out r1 r2
      unfold part Rg.mid Rg.from Rg.upto at NX
      simp only at NX
      obtain ⟨am, ham⟩ : ∃ x, min r2 qf = x := ⟨_, rfl⟩
      obtain ⟨mf, hmf⟩ : ∃ x, max r1 qf = x := ⟨_, rfl⟩
      obtain ⟨mt, hmt⟩ : ∃ x, min r2 qt = x := ⟨_, rfl⟩
      obtain ⟨bf, hbf⟩ : ∃ x, max r1 qt = x := ⟨_, rfl⟩
      rw [ham, hmf, hmt, hbf] at NX
      rw [hmf, hmt] at CR
      have HAM : Hid (min r2 qf = am) := ham
      have HBF : Hid (max r1 qt = bf) := hbf
      clear ham hmf hmt hbf CM
      have b0 : wr.cell? ⟨w.heap.size, 0, none⟩ = some (.int .i64 qf) := (hB.out.cell (p := ⟨w.heap.size, 0, none⟩) (by show w.heap.size < _; omega)).trans Z0.out.2.2.1
      have b1 : wr.cell? ⟨w.heap.size, 1, none⟩ = some (.int .i64 qt) := (hB.out.cell (p := ⟨w.heap.size, 1, none⟩) (by show w.heap.size < _; omega)).trans Z0.out.2.2.2
      have lw : w.heap.size < wr.heap.size := Nat.lt_of_lt_of_le (by rw [Z0.out.1]; omega) hB.out.size
      have KF : Hid (wr.cell? ⟨w.heap.size, 0, none⟩ = some (.int .i64 qf) ∧ wr.cell? ⟨w.heap.size, 1, none⟩ = some (.int .i64 qt)) := ⟨b0, b1⟩
      obtain ⟨s, hs⟩ : ∃ s, wr.heap.size = s := ⟨_, rfl⟩
      have HS : Hid (wr.heap.size = s) := hs
      clear hs b0 b1
      go_upto_region 5 with fail
      go_cut [11, 12, 13] (fun a b d wx => ∃ A B D : Nat, a = .pointer (some ⟨A, 0, none⟩) ∧ b = .pointer (some ⟨B, 0, none⟩) ∧ d = .pointer (some ⟨D, 0, none⟩) ∧ (wr.heap.size < A ∧ wr.heap.size < B ∧ wr.heap.size < D ∧ A ≠ B ∧ A ≠ D ∧ B ≠ D) ∧ wx = ((((wr.alloc (.cells #[.int .i64 r1, .int .i64 r2, .bool r3, .bool r4, .bool r5, .int .i64 r6] 46)).alloc (.cells #[.int .i64 r1, .int .i64 r2, .bool r3, .bool r4, .bool r5, .int .i64 r6] 46)).alloc (.cells #[.int .i64 r1, .int .i64 r2, .bool r3, .bool r4, .bool r5, .int .i64 r6] 46)).alloc (.cells #[.int .i64 r1, .int .i64 r2, .bool r3, .bool r4, .bool r5, .int .i64 r6] 46)).drew ∧ A ≤ wr.heap.size + 3 ∧ B ≤ wr.heap.size + 3 ∧ D ≤ wr.heap.size + 3)
      case first =>
        go_region
        all_goals (try go_wp2_with fail)
        all_goals go_meet
        all_goals exact ⟨_, _, _, rfl, rfl, rfl, ⟨by omega, by omega, by omega, by omega, by omega, by omega⟩, rfl, by omega, by omega, by omega⟩
      case rest =>
        obtain ⟨A, B, D, rfl, rfl, rfl, ⟨lA, lB, lD, nAB, nAD, nBD⟩, ewc, hA3, hB3, hD3⟩ := hcut
        have FS : Hid (wc.heap[wr.heap.size]? = some (.cells #[.int .i64 r1, .int .i64 r2, .bool r3, .bool r4, .bool r5, .int .i64 r6] 46 (0, 0))) := by show _ = _; rw [ewc]; exact four_block wr _ _ (by omega) (by omega)
        have FA : Hid (wc.heap[A]? = some (.cells #[.int .i64 r1, .int .i64 r2, .bool r3, .bool r4, .bool r5, .int .i64 r6] 46 (0, 0))) := by show _ = _; rw [ewc]; exact four_block wr _ _ (by omega) (by omega)
        have FB : Hid (wc.heap[B]? = some (.cells #[.int .i64 r1, .int .i64 r2, .bool r3, .bool r4, .bool r5, .int .i64 r6] 46 (0, 0))) := by show _ = _; rw [ewc]; exact four_block wr _ _ (by omega) (by omega)
        have FD : Hid (wc.heap[D]? = some (.cells #[.int .i64 r1, .int .i64 r2, .bool r3, .bool r4, .bool r5, .int .i64 r6] 46 (0, 0))) := by show _ = _; rw [ewc]; exact four_block wr _ _ (by omega) (by omega)
        have BW : Hid (Below wr.heap.size wr wc) := by show Below _ _ _; rw [ewc]; exact below_drew (below_new (Go.Joins.below_alloc3 _ _ _ _) _)
        clear ewc hA3 hB3 hD3
        have s0 : wc.cell? ⟨wr.heap.size, 0, none⟩ = some (.int .i64 r1) := Go.Joins.cell_of_block FS.out 0
        have s1 : wc.cell? ⟨wr.heap.size, 1, none⟩ = some (.int .i64 r2) := Go.Joins.cell_of_block FS.out 1
        have a1 : wc.cell? ⟨A, 1, none⟩ = some (.int .i64 r2) := Go.Joins.cell_of_block FA.out 1
        have fa : wc.frozen? ⟨A, 1, none⟩ = false := Go.Joins.unfrozen_of_block FA.out 1
        have p0 : wc.cell? ⟨w.heap.size, 0, none⟩ = some (.int .i64 qf) := (BW.out.cell (p := ⟨w.heap.size, 0, none⟩) lw).trans KF.out.1
        have p1 : wc.cell? ⟨w.heap.size, 1, none⟩ = some (.int .i64 qt) := (BW.out.cell (p := ⟨w.heap.size, 1, none⟩) lw).trans KF.out.2
        clear y0 y1 y2 y3 y4 y5
        go_wp2_with (refine min_pat (x := .tmp 25) (y := .tmp 27) r2 qf am HAM.out rfl rfl ?_)
        refine (CR.out _).mono ?_
        rintro e u1 ⟨rfl, hb1⟩
        have zs := (grown_setCell1 wc A 1 (.int .i64 am)).size
        have GA : Hid (u1.heap[A]? = some (.cells #[.int .i64 r1, .int .i64 am, .bool r3, .bool r4, .bool r5, .int .i64 r6] 46 (0, 0))) := (hb1.block A (Nat.lt_of_lt_of_le (blk_lt FA.out) zs)).trans (set_same FA.out rfl)
        have GB : Hid (u1.heap[B]? = some (.cells #[.int .i64 r1, .int .i64 r2, .bool r3, .bool r4, .bool r5, .int .i64 r6] 46 (0, 0))) := (hb1.block B (Nat.lt_of_lt_of_le (blk_lt FB.out) zs)).trans ((set_block (by omega)).trans FB.out)
        have GD : Hid (u1.heap[D]? = some (.cells #[.int .i64 r1, .int .i64 r2, .bool r3, .bool r4, .bool r5, .int .i64 r6] 46 (0, 0))) := (hb1.block D (Nat.lt_of_lt_of_le (blk_lt FD.out) zs)).trans ((set_block (by omega)).trans FD.out)
        have GS : Hid (u1.heap[wr.heap.size]? = some (.cells #[.int .i64 r1, .int .i64 r2, .bool r3, .bool r4, .bool r5, .int .i64 r6] 46 (0, 0))) := (hb1.block _ (Nat.lt_of_lt_of_le (blk_lt FS.out) zs)).trans ((set_block (by omega)).trans FS.out)
        have BU : Hid (Below wr.heap.size wr u1) := below_then (BW.out.setCell (p := ⟨A, 1, none⟩) (Nat.le_of_lt lA) _) hb1
        clear hb1 zs s0 s1 a1 fa p0 p1 FS FA FB FD BW
        have s0 : u1.cell? ⟨wr.heap.size, 0, none⟩ = some (.int .i64 r1) := Go.Joins.cell_of_block GS.out 0
        have e0 : u1.cell? ⟨B, 0, none⟩ = some (.int .i64 r1) := Go.Joins.cell_of_block GB.out 0
        have e1 : u1.cell? ⟨B, 1, none⟩ = some (.int .i64 r2) := Go.Joins.cell_of_block GB.out 1
        have f0 : u1.frozen? ⟨B, 0, none⟩ = false := Go.Joins.unfrozen_of_block GB.out 0
        have f1 : u1.frozen? ⟨B, 1, none⟩ = false := Go.Joins.unfrozen_of_block GB.out 1
        have d0 : u1.cell? ⟨D, 0, none⟩ = some (.int .i64 r1) := Go.Joins.cell_of_block GD.out 0
        have k0 : u1.frozen? ⟨D, 0, none⟩ = false := Go.Joins.unfrozen_of_block GD.out 0
        have p1 : u1.cell? ⟨w.heap.size, 1, none⟩ = some (.int .i64 qt) := (BU.out.cell (p := ⟨w.heap.size, 1, none⟩) lw).trans KF.out.2
        go_wp2_with (refine max_pat (x := .tmp 38) (y := .tmp 40) r1 qt bf HBF.out rfl rfl ?_)
        obtain ⟨X, hX⟩ : ∃ X, ((u1.setCell ⟨B, 0, none⟩ (.int .i64 mf)).setCell ⟨B, 1, none⟩ (.int .i64 mt)).setCell ⟨D, 0, none⟩ (.int .i64 bf) = X := ⟨_, rfl⟩
        have XA : Hid (X.heap[A]? = some (.cells #[.int .i64 r1, .int .i64 am, .bool r3, .bool r4, .bool r5, .int .i64 r6] 46 (0, 0))) := by show _ = _; rw [← hX, set_block (by omega), set_block (by omega), set_block (by omega)]; exact GA.out
        have XB : Hid (X.heap[B]? = some (.cells #[.int .i64 mf, .int .i64 mt, .bool r3, .bool r4, .bool r5, .int .i64 r6] 46 (0, 0))) := by show _ = _; rw [← hX, set_block (by omega)]; exact set_same (set_same GB.out rfl) rfl
        have XD : Hid (X.heap[D]? = some (.cells #[.int .i64 bf, .int .i64 r2, .bool r3, .bool r4, .bool r5, .int .i64 r6] 46 (0, 0))) := by show _ = _; rw [← hX]; exact set_same ((set_block (by omega)).trans ((set_block (by omega)).trans GD.out)) rfl
        have BX : Hid (Below wr.heap.size wr X) := by show Below _ _ _; rw [← hX]; exact ((BU.out.setCell (p := ⟨B, 0, none⟩) (Nat.le_of_lt lB) _).setCell (p := ⟨B, 1, none⟩) (Nat.le_of_lt lB) _).setCell (p := ⟨D, 0, none⟩) (Nat.le_of_lt lD) _
        rw [hX]
        clear hX GA GB GD GS BU s0 e0 e1 f0 f1 d0 k0 p1
        have NA : Hid (u8.ownBlock ≠ some A) := blk_ne (c := 0) hO.out (Nat.le_of_lt lA)
        have NB : Hid (u8.ownBlock ≠ some B) := blk_ne (c := 0) hO.out (Nat.le_of_lt lB)
        have ND : Hid (u8.ownBlock ≠ some D) := blk_ne (c := 0) hO.out (Nat.le_of_lt lD)
        have OU : Hid (OwnL X.drew (w.heap.size + 1) u8 M) := OwnL.below hO.out (below_drew BX.out)
        have BB : Hid (Below (w.heap.size + 1) W0 X.drew) := hB.out.trans (Go.Joins.below_le (below_drew BX.out) (by omega))
        have lAX : A < X.drew.heap.size := blk_lt XA.out
        have lBX : B < X.drew.heap.size := blk_lt XB.out
        have lDX : D < X.drew.heap.size := blk_lt XD.out
        refine wp_region_noPanic ?_
        refine wp_region_held_drew (S := fun c => c.heap[A]? = some (.cells #[.int .i64 r1, .int .i64 am, .bool r3, .bool r4, .bool r5, .int .i64 r6] 46 (0, 0)) ∧ c.heap[B]? = some (.cells #[.int .i64 mf, .int .i64 mt, .bool r3, .bool r4, .bool r5, .int .i64 r6] 46 (0, 0)) ∧ c.heap[D]? = some (.cells #[.int .i64 bf, .int .i64 r2, .bool r3, .bool r4, .bool r5, .int .i64 r6] 46 (0, 0))) (by kernel_rfl) ?_ (fun hHeld => ?_)
        · exact ⟨XA.out, XB.out, XD.out⟩
        refine wpAnyH_take (i := 0) (oi := ⟨some 44, _, _, _, _, none⟩) (v := ?_) rfl (by kernel_rfl) (by kernel_rfl) (by kernel_rfl) (fun _ _ _ h => h) (Or.inl ⟨by rfl, ?_⟩) (by assumption) ?_
        rotate_left
        · intro w hSw; (try dsimp only at hSw); go_simp; (try with_reducible rfl)
        try simp only [Act.put, List.setIfInBounds_toArray, List.set_cons_zero, List.set_cons_succ]
        refine wpAnyH_take (i := 1) (oi := ⟨some 45, _, _, _, _, none⟩) (v := .agg #[.int .i64 r1, .int .i64 am, .bool r3, .bool r4, .bool r5, .int .i64 r6]) rfl (by kernel_rfl) (by kernel_rfl) (by kernel_rfl) (fun _ _ _ h => h) (Or.inl ⟨by rfl, ?_⟩) (by assumption) ?_
        · intro w hSw; (try dsimp only at hSw); have q0 : w.cell? ⟨A, 0, none⟩ = some (.int .i64 r1) := Go.Joins.cell_of_block hSw.1 0; have q1 : w.cell? ⟨A, 1, none⟩ = some (.int .i64 am) := Go.Joins.cell_of_block hSw.1 1; have q2 : w.cell? ⟨A, 2, none⟩ = some (.bool r3) := Go.Joins.cell_of_block hSw.1 2; have q3 : w.cell? ⟨A, 3, none⟩ = some (.bool r4) := Go.Joins.cell_of_block hSw.1 3; have q4 : w.cell? ⟨A, 4, none⟩ = some (.bool r5) := Go.Joins.cell_of_block hSw.1 4; have q5 : w.cell? ⟨A, 5, none⟩ = some (.int .i64 r6) := Go.Joins.cell_of_block hSw.1 5; go_simp; (try simp)
        try simp only [Act.put, List.setIfInBounds_toArray, List.set_cons_zero, List.set_cons_succ]
        refine wpAnyH_take (i := 3) (oi := ⟨some 47, _, _, _, _, none⟩) (v := ?_) rfl (by kernel_rfl) (by kernel_rfl) (by kernel_rfl) (fun _ _ _ h => h) (Or.inl ⟨by rfl, ?_⟩) (by assumption) ?_
        rotate_left
        · intro w hSw; (try dsimp only at hSw); go_simp; (try with_reducible rfl)
        try simp only [Act.put, List.setIfInBounds_toArray, List.set_cons_zero, List.set_cons_succ]
        refine wpAnyH_take (i := 4) (oi := ⟨some 48, _, _, _, _, none⟩) (v := .agg #[.int .i64 mf, .int .i64 mt, .bool r3, .bool r4, .bool r5, .int .i64 r6]) rfl (by kernel_rfl) (by kernel_rfl) (by kernel_rfl) (fun _ _ _ h => h) (Or.inl ⟨by rfl, ?_⟩) (by assumption) ?_
        · intro w hSw; (try dsimp only at hSw); have q0 : w.cell? ⟨B, 0, none⟩ = some (.int .i64 mf) := Go.Joins.cell_of_block hSw.2.1 0; have q1 : w.cell? ⟨B, 1, none⟩ = some (.int .i64 mt) := Go.Joins.cell_of_block hSw.2.1 1; have q2 : w.cell? ⟨B, 2, none⟩ = some (.bool r3) := Go.Joins.cell_of_block hSw.2.1 2; have q3 : w.cell? ⟨B, 3, none⟩ = some (.bool r4) := Go.Joins.cell_of_block hSw.2.1 3; have q4 : w.cell? ⟨B, 4, none⟩ = some (.bool r5) := Go.Joins.cell_of_block hSw.2.1 4; have q5 : w.cell? ⟨B, 5, none⟩ = some (.int .i64 r6) := Go.Joins.cell_of_block hSw.2.1 5; go_simp; (try simp)
        try simp only [Act.put, List.setIfInBounds_toArray, List.set_cons_zero, List.set_cons_succ]
        refine wpAnyH_take (i := 7) (oi := ⟨some 51, _, _, _, _, none⟩) (v := .agg #[.int .i64 bf, .int .i64 r2, .bool r3, .bool r4, .bool r5, .int .i64 r6]) rfl (by kernel_rfl) (by kernel_rfl) (by kernel_rfl) (fun _ _ _ h => h) (Or.inl ⟨by rfl, ?_⟩) (by assumption) ?_
        · intro w hSw; (try dsimp only at hSw); have q0 : w.cell? ⟨D, 0, none⟩ = some (.int .i64 bf) := Go.Joins.cell_of_block hSw.2.2 0; have q1 : w.cell? ⟨D, 1, none⟩ = some (.int .i64 r2) := Go.Joins.cell_of_block hSw.2.2 1; have q2 : w.cell? ⟨D, 2, none⟩ = some (.bool r3) := Go.Joins.cell_of_block hSw.2.2 2; have q3 : w.cell? ⟨D, 3, none⟩ = some (.bool r4) := Go.Joins.cell_of_block hSw.2.2 3; have q4 : w.cell? ⟨D, 4, none⟩ = some (.bool r5) := Go.Joins.cell_of_block hSw.2.2 4; have q5 : w.cell? ⟨D, 5, none⟩ = some (.int .i64 r6) := Go.Joins.cell_of_block hSw.2.2 5; go_simp; (try simp)
        try simp only [Act.put, List.setIfInBounds_toArray, List.set_cons_zero, List.set_cons_succ]
        clear XA XB XD BX hO hB
        generalize X.drew = U at OU BB lAX lBX lDX hHeld ⊢
        have LENS : Hid (M.length ≤ 1000 ∧ (withL M ⟨r1, am, r3, r4, r5, r6⟩).length ≤ 1000 ∧ (withL (withL M ⟨r1, am, r3, r4, r5, r6⟩) (Rg.may ⟨mf, mt, r3, r4, r5, r6⟩ pa pb pc)).length ≤ 1000) := by
          have k1 := LN.out
          have k2 := withL_len M ⟨r1, am, r3, r4, r5, r6⟩
          have k3 := withL_len (withL M ⟨r1, am, r3, r4, r5, r6⟩) (Rg.may ⟨mf, mt, r3, r4, r5, r6⟩ pa pb pc)
          exact ⟨by omega, by omega, by omega⟩
        refine wpAnyH_ready (rs := [2]) (by kernel_rfl) (by simp) ?_
        refine AllReadyH.cons (o := ⟨some 46, _, _, _, _, none⟩) rfl (fun K hK => ?_) AllReadyH.nil
        go_simp
        go_wp2_with (go_at_call 27; refine (WI.out (w.heap.size + 1) u8 M LENS.out.1 ⟨r1, am, r3, r4, r5, r6⟩ _ (by omega) OU.out).mono ?_; rintro e u2 ⟨v1, rfl, ho, hk⟩)
        have Ou2 : Hid (OwnL u2 (w.heap.size + 1) v1 (withL M ⟨r1, am, r3, r4, r5, r6⟩)) := ho
        have Bu2 : Hid (Below (w.heap.size + 1) W0 u2) := BB.out.trans (hk.below OU.out (by omega))
        have xAu2 := (hk.block A lAX NA.out).trans hHeld.1
        have NAu2 : Hid (v1.ownBlock ≠ some A) := hk.ne A lAX NA.out
        have xBu2 := (hk.block B lBX NB.out).trans hHeld.2.1
        have NBu2 : Hid (v1.ownBlock ≠ some B) := hk.ne B lBX NB.out
        have xDu2 := (hk.block D lDX ND.out).trans hHeld.2.2
        have NDu2 : Hid (v1.ownBlock ≠ some D) := hk.ne D lDX ND.out
        have zs := hk.1.size
        have lAY : A < u2.heap.size := Nat.lt_of_lt_of_le lAX zs
        have lBY : B < u2.heap.size := Nat.lt_of_lt_of_le lBX zs
        have lDY : D < u2.heap.size := Nat.lt_of_lt_of_le lDX zs
        clear ho hk NA NB ND zs lAX lBX lDX OU BB
        have NA : Hid _ := NAu2.out
        have lAX := lAY
        have NB : Hid _ := NBu2.out
        have lBX := lBY
        have ND : Hid _ := NDu2.out
        have lDX := lDY
        clear NAu2 lAY NBu2 lBY NDu2 lDY
        clear hHeld
        refine hK.out _ _ ⟨xAu2, xBu2, xDu2⟩ (fun hHeld => ?_)
        clear hK K xAu2 xBu2 xDu2
        try simp only [Act.put, List.setIfInBounds_toArray, List.set_cons_zero, List.set_cons_succ]
        refine wpAnyH_ready (rs := [5]) (by kernel_rfl) (by simp) ?_
        refine AllReadyH.cons (o := ⟨some 49, _, _, _, _, none⟩) rfl (fun K hK => ?_) AllReadyH.nil
        go_simp
        go_wp2_with (go_at_call 31; refine (CL.out ⟨mf, mt, r3, r4, r5, r6⟩ _ (HK.out _ Bu2.out)).mono ?_; rintro e u3 ⟨rfl, hb3⟩)
        have Ou3 : Hid (OwnL u3 (w.heap.size + 1) v1 (withL M ⟨r1, am, r3, r4, r5, r6⟩)) := OwnL.below Ou2.out hb3
        have Bu3 : Hid (Below (w.heap.size + 1) W0 u3) := Bu2.out.trans (Go.Joins.below_le hb3 (by omega))
        have xAu3 := (hb3.block A lAX).trans hHeld.1
        have xBu3 := (hb3.block B lBX).trans hHeld.2.1
        have xDu3 := (hb3.block D lDX).trans hHeld.2.2
        have zs := hb3.size
        have lAY : A < u3.heap.size := Nat.lt_of_lt_of_le lAX zs
        have lBY : B < u3.heap.size := Nat.lt_of_lt_of_le lBX zs
        have lDY : D < u3.heap.size := Nat.lt_of_lt_of_le lDX zs
        clear hb3 zs lAX lBX lDX Ou2 Bu2
        have lAX := lAY
        have lBX := lBY
        have lDX := lDY
        clear lAY lBY lDY
        clear hHeld
        refine hK.out _ _ ⟨xAu3, xBu3, xDu3⟩ (fun hHeld => ?_)
        clear hK K xAu3 xBu3 xDu3
        try simp only [Act.put, List.setIfInBounds_toArray, List.set_cons_zero, List.set_cons_succ]
        refine wpAnyH_ready (rs := [6]) (by kernel_rfl) (by simp) ?_
        refine AllReadyH.cons (o := ⟨some 50, _, _, _, _, none⟩) rfl (fun K hK => ?_) AllReadyH.nil
        go_simp
        go_wp2_with (go_at_call 27; refine (WI.out (w.heap.size + 1) v1 (withL M ⟨r1, am, r3, r4, r5, r6⟩) LENS.out.2.1 (Rg.may ⟨mf, mt, r3, r4, r5, r6⟩ pa pb pc) _ (by omega) Ou3.out).mono ?_; rintro e u4 ⟨v2, rfl, ho, hk⟩)
        have Ou4 : Hid (OwnL u4 (w.heap.size + 1) v2 (withL (withL M ⟨r1, am, r3, r4, r5, r6⟩) (Rg.may ⟨mf, mt, r3, r4, r5, r6⟩ pa pb pc))) := ho
        have Bu4 : Hid (Below (w.heap.size + 1) W0 u4) := Bu3.out.trans (hk.below Ou3.out (by omega))
        have xAu4 := (hk.block A lAX NA.out).trans hHeld.1
        have NAu4 : Hid (v2.ownBlock ≠ some A) := hk.ne A lAX NA.out
        have xBu4 := (hk.block B lBX NB.out).trans hHeld.2.1
        have NBu4 : Hid (v2.ownBlock ≠ some B) := hk.ne B lBX NB.out
        have xDu4 := (hk.block D lDX ND.out).trans hHeld.2.2
        have NDu4 : Hid (v2.ownBlock ≠ some D) := hk.ne D lDX ND.out
        have zs := hk.1.size
        have lAY : A < u4.heap.size := Nat.lt_of_lt_of_le lAX zs
        have lBY : B < u4.heap.size := Nat.lt_of_lt_of_le lBX zs
        have lDY : D < u4.heap.size := Nat.lt_of_lt_of_le lDX zs
        clear ho hk NA NB ND zs lAX lBX lDX Ou3 Bu3
        have NA : Hid _ := NAu4.out
        have lAX := lAY
        have NB : Hid _ := NBu4.out
        have lBX := lBY
        have ND : Hid _ := NDu4.out
        have lDX := lDY
        clear NAu4 lAY NBu4 lBY NDu4 lDY
        clear hHeld
        refine hK.out _ _ ⟨xAu4, xBu4, xDu4⟩ (fun hHeld => ?_)
        clear hK K xAu4 xBu4 xDu4
        try simp only [Act.put, List.setIfInBounds_toArray, List.set_cons_zero, List.set_cons_succ]
        refine wpAnyH_ready (rs := [8]) (by kernel_rfl) (by simp) ?_
        refine AllReadyH.cons (o := ⟨some 52, _, _, _, _, none⟩) rfl (fun K hK => ?_) AllReadyH.nil
        go_simp
        go_wp2_with (go_at_call 27; refine (WI.out (w.heap.size + 1) v2 (withL (withL M ⟨r1, am, r3, r4, r5, r6⟩) (Rg.may ⟨mf, mt, r3, r4, r5, r6⟩ pa pb pc)) LENS.out.2.2 ⟨bf, r2, r3, r4, r5, r6⟩ _ (by omega) Ou4.out).mono ?_; rintro e u5 ⟨v3, rfl, ho, hk⟩)
        have Ou5 : Hid (OwnL u5 (w.heap.size + 1) v3 (withL (withL (withL M ⟨r1, am, r3, r4, r5, r6⟩) (Rg.may ⟨mf, mt, r3, r4, r5, r6⟩ pa pb pc)) ⟨bf, r2, r3, r4, r5, r6⟩)) := ho
        have Bu5 : Hid (Below (w.heap.size + 1) W0 u5) := Bu4.out.trans (hk.below Ou4.out (by omega))
        have xAu5 := (hk.block A lAX NA.out).trans hHeld.1
        have NAu5 : Hid (v3.ownBlock ≠ some A) := hk.ne A lAX NA.out
        have xBu5 := (hk.block B lBX NB.out).trans hHeld.2.1
        have NBu5 : Hid (v3.ownBlock ≠ some B) := hk.ne B lBX NB.out
        have xDu5 := (hk.block D lDX ND.out).trans hHeld.2.2
        have NDu5 : Hid (v3.ownBlock ≠ some D) := hk.ne D lDX ND.out
        have zs := hk.1.size
        have lAY : A < u5.heap.size := Nat.lt_of_lt_of_le lAX zs
        have lBY : B < u5.heap.size := Nat.lt_of_lt_of_le lBX zs
        have lDY : D < u5.heap.size := Nat.lt_of_lt_of_le lDX zs
        clear ho hk NA NB ND zs lAX lBX lDX Ou4 Bu4
        have NA : Hid _ := NAu5.out
        have lAX := lAY
        have NB : Hid _ := NBu5.out
        have lBX := lBY
        have ND : Hid _ := NDu5.out
        have lDX := lDY
        clear NAu5 lAY NBu5 lBY NDu5 lDY
        clear hHeld
        refine hK.out _ _ ⟨xAu5, xBu5, xDu5⟩ (fun hHeld => ?_)
        clear hK K xAu5 xBu5 xDu5
        try simp only [Act.put, List.setIfInBounds_toArray, List.set_cons_zero, List.set_cons_succ]
        refine wpAnyH_take (i := 9) (oi := ⟨some 8, _, _, _, _, none⟩) (v := ?_) rfl (by kernel_rfl) (by kernel_rfl) (by kernel_rfl) (fun _ _ _ h => h) (Or.inl ⟨by rfl, ?_⟩) (by assumption) ?_
        rotate_left
        · intro w hSw; (try dsimp only at hSw); go_simp; (try with_reducible rfl)
        try simp only [Act.put, List.setIfInBounds_toArray, List.set_cons_zero, List.set_cons_succ]
        refine wpAnyH_done (by kernel_rfl) ?_ _
        refine NoPanic.normal ?_
        have N2 : Hid (OwnL u5 (w.heap.size + 1) v3 (chg (fun r => r.may pa pb pc) qf qt (L.take (m + 1)))) := by show OwnL _ _ _ _; rw [NX.out]; exact Ou5.out
        clear NX Ou5
        go_wp2_with fail
        go_roundw
        case rel => exact ⟨m + 1, by omega, by go_num, N2, Bu5⟩
        case measure => simp [intOf]; omega
    · obtain rfl : m = L.length := by omega
      have O1 : Hid (OwnL wr (w.heap.size + 1) u8 (chg (fun r => r.may pa pb pc) qf qt L)) := by
        have := hO.out
        rw [List.take_length] at this; exact this
      have LN : Hid ((chg (fun r => r.may pa pb pc) qf qt L).length ≤ 300) := by
        have := chg_len (fun r => r.may pa pb pc) qf qt L L.length (Nat.le_refl _)
        rw [List.take_length] at this; exact Nat.le_trans this (by omega)
      obtain ⟨q, d, ev, hq⟩ := own_read O1.out
      have BE : Hid (Below w.heap.size w wr) := Z0.out.2.1.trans (Go.Joins.below_le hB.out (by omega))
      obtain ⟨M, hM⟩ : ∃ M, chg (fun r => r.may pa pb pc) qf qt L = M := ⟨_, rfl⟩
      rw [hM] at O1 LN ev
      have HM : Hid (chg (fun r => r.may pa pb pc) qf qt L = M) := hM
      clear hM
      clear hO hq
      obtain ⟨n, hn⟩ : ∃ n, M.length = n := ⟨_, rfl⟩
      have HN : Hid (M.length = n) := hn
      rw [hn] at ev LN
      clear hn
      subst ev
      by_cases few : n ≤ 64
      · go_wp2_with fail
        refine (FY.out _ _ _ few _).mono ?_
        rintro e u1 ⟨rfl, hb1⟩
        have B1 : Hid (Below w.heap.size w u1) := below_then BE.out hb1
        have R1 : Hid (Res u1 w.heap.size (.slice q n d) 0 M) := Or.inl ⟨by rw [HN.out]; exact few, rfl, Go.Joins.ownsRow_le (OwnL.below O1.out hb1) (by omega)⟩
        clear hb1
        go_wp2_with fail
        go_returns
        exact ⟨.slice q n d, 0, rfl, by rw [HM.out]; exact R1.out, B1.out⟩
      · go_wp2_with fail
        refine (FN.out _ _ _ (by omega) (Nat.le_trans LN.out (by omega)) _).mono ?_
        rintro e u1 ⟨rfl, hb1⟩
        have B1 : Hid (Below w.heap.size w u1) := below_then BE.out hb1
        have R1 : Hid (Res u1 w.heap.size (.slice none 0 0) 4 M) := Or.inr ⟨by rw [HN.out]; omega, rfl, rfl⟩
        clear hb1
        go_wp2_with fail
        go_returns
        exact ⟨.slice none 0 0, 4, rfl, by rw [HM.out]; exact R1.out, B1.out⟩
end Go.Proofs.YtkiclbnbnjbcaabDoor.Re
namespace Go.Proofs.YtkiclbnbnjbcaabDoor.Re
open Go.ChangeShapes Go.WideShapes Go.ChangeAt Go.RowKit Go.Maps
set_option linter.unusedSimpArgs false
set_option linter.unusedVariables false
set_option maxRecDepth 8000

/-- a whole answer: the error E, or the list -/
def Ans (w' : World) (base : Nat) (v : Value) (er : Int) (E : Int) (M : List Rg) : Prop := (E ≠ 0 ∧ er = E ∧ v = .slice none 0 0) ∨ (E = 0 ∧ Res w' base v er M)
theorem Res.weak {w' : World} {base base' : Nat} {v : Value} {er : Int} {M : List Rg} (h : Res w' base v er M) (hb : base' ≤ base) : Res w' base' v er M := by
  rcases h with ⟨a, b, c⟩ | h
  · exact Or.inl ⟨a, b, Go.Joins.ownsRow_le c hb⟩
  · exact Or.inr h
set_option maxHeartbeats 2000000 in
theorem cut_any (base : Nat) (p : Option Addr) (c : Nat) (L : List Rg) (hL : L.length ≤ 100) (qf qt : Int) (w : World) (h : IsL w base p L) :
    Calls Tryd.prog 9 #[.slice p L.length c, rgV qf qt] w fun e w' => ∃ v er, e = .returned (.tuple #[v, .int .i64 er]) ∧ Ans w' w.heap.size v er (checkN L qf qt) (chg (fun _ => Rg.zero) qf qt L) ∧ Below w.heap.size w w' := by
  have CK : Hid (∀ W : World, IsL W base p L → Calls Tryd.prog 26 #[.slice p L.length c, rgV qf qt] W fun e w' => e = .returned (.int .i64 (checkN L qf qt)) ∧ Below W.heap.size W w') := fun W h => check_any base p c L hL qf qt W h
  have CC : Hid (∀ W : World, IsL W base p L → Calls Tryd.prog 29 #[.slice p L.length c, rgV qf qt, .func (.func 30) #[] #[]] W fun e w' => ∃ v er, e = .returned (.tuple #[v, .int .i64 er]) ∧ Res w' W.heap.size v er (chg (fun _ => Rg.zero) qf qt L) ∧ Below W.heap.size W w') := fun W h => change_cut p c L hL qf qt W (h.lowl (Nat.le_refl _))
  have HI : Hid (IsL w base p L) := h
  clear h
  obtain ⟨E, hE⟩ : ∃ E, checkN L qf qt = E := ⟨_, rfl⟩
  obtain ⟨M, hM⟩ : ∃ M, chg (fun _ => Rg.zero) qf qt L = M := ⟨_, rfl⟩
  rw [hE] at CK ⊢
  rw [hM] at CC ⊢
  clear hE hM
  obtain ⟨n, hn⟩ : ∃ n, L.length = n := ⟨_, rfl⟩
  rw [hn] at CK CC ⊢
  clear hn
  by_cases cz : E = 0
  · subst cz
    go_enter Tryd.func9, Tryd.ntmps9
    go_wp2_with fail
    refine (CK.out _ (HI.out.below (Go.Joins.below_alloc1 _ _))).mono ?_
    rintro e u1 ⟨rfl, hb1⟩
    have b0 : u1.cell? ⟨w.heap.size, 0, none⟩ = some (.int .i64 qf) := (hb1.cell (p := ⟨w.heap.size, 0, none⟩) (by simp)).trans (by simp)
    have b1 : u1.cell? ⟨w.heap.size, 1, none⟩ = some (.int .i64 qt) := (hb1.cell (p := ⟨w.heap.size, 1, none⟩) (by simp)).trans (by simp)
    have lw : w.heap.size < u1.heap.size := Nat.lt_of_lt_of_le (by simp) hb1.size
    have B1 : Hid (Below w.heap.size w u1) := below_then (Go.Joins.below_alloc1 _ _) hb1
    clear hb1
    go_wp2_with fail
    refine (CC.out _ (HI.out.below B1.out)).mono ?_
    rintro e u2 ⟨v, er, rfl, hr, hb2⟩
    have B2 : Hid (Below w.heap.size w u2) := below_then B1.out hb2
    have A2 : Hid (Ans u2 w.heap.size v er 0 M) := Or.inr ⟨rfl, hr.weak (Nat.le_of_lt lw)⟩
    clear hr hb2
    go_wp2_with fail
    go_returns
    exact ⟨v, er, rfl, A2.out, B2.out⟩
  · have eb : (E == 0) = false := by simp [cz]
    have A1 : Hid (∀ W : World, Ans W w.heap.size (.slice none 0 0) E E M) := fun W => Or.inl ⟨cz, rfl, rfl⟩
    clear cz
    go_enter Tryd.func9, Tryd.ntmps9
    go_wp2_with fail
    refine (CK.out _ (HI.out.below (Go.Joins.below_alloc1 _ _))).mono ?_
    rintro e u1 ⟨rfl, hb1⟩
    have B1 : Hid (Below w.heap.size w u1) := below_then (Go.Joins.below_alloc1 _ _) hb1
    clear hb1
    go_wp2_with fail
    go_returns
    exact ⟨.slice none 0 0, E, rfl, A1.out _, B1.out⟩
set_option maxHeartbeats 4000000 in
theorem prot_any (base : Nat) (p : Option Addr) (c : Nat) (L : List Rg) (hL : L.length ≤ 100) (qf qt : Int) (pa pb pc : Bool) (w : World) (h : IsL w base p L) :
    Calls Tryd.prog 10 #[.slice p L.length c, rgV qf qt, pmV pa pb pc] w fun e w' => ∃ v er, e = .returned (.tuple #[v, .int .i64 er]) ∧ Ans w' w.heap.size v er (protN L qf qt) (chg (fun r => r.may pa pb pc) qf qt L) ∧ Below w.heap.size w w' := by
  have CK : Hid (∀ W : World, IsL W base p L → Calls Tryd.prog 26 #[.slice p L.length c, rgV qf qt] W fun e w' => e = .returned (.int .i64 (checkN L qf qt)) ∧ Below W.heap.size W w') := fun W h => check_any base p c L hL qf qt W h
  have CC : Hid (∀ (W : World) (B0 : Nat), B0 < W.heap.size → IsPm W B0 pa pb pc → IsL W base p L → Calls Tryd.prog 29 #[.slice p L.length c, rgV qf qt, .func (.func 31) #[] #[.pointer (some ⟨B0, 0, none⟩)]] W fun e w' => ∃ v er, e = .returned (.tuple #[v, .int .i64 er]) ∧ Res w' W.heap.size v er (chg (fun r => r.may pa pb pc) qf qt L) ∧ Below W.heap.size W w') := fun W B0 hB hp h => change_prot p c L hL qf qt W (h.lowl (Nat.le_refl _)) B0 pa pb pc hB hp
  have HI : Hid (IsL w base p L) := h
  clear h
  have EP : Hid (protN L qf qt = if checkN L qf qt = 0 then (if cntR qf qt L < qt - qf then 5 else 0) else checkN L qf qt) := rfl
  have CNH : Hid (checkN L qf qt = 0 → ∀ W : World, IsL W base p L → Calls Tryd.prog 17 #[.slice p L.length c, rgV qf qt] W fun e w' => e = .returned (.int .i64 (cntR qf qt L)) ∧ Below W.heap.size W w') := fun q W h => count_any base p c L hL (good_num (check_zero q).2) qf qt W h
  have RI : Hid (checkN L qf qt = 0 → 0 ≤ qf ∧ qf < qt ∧ qt ≤ 34359738368 ∧ qt - qf ≤ 65536) := fun q => right_is (check_zero q).1
  obtain ⟨E, hE⟩ : ∃ E, checkN L qf qt = E := ⟨_, rfl⟩
  obtain ⟨M, hM⟩ : ∃ M, chg (fun r => r.may pa pb pc) qf qt L = M := ⟨_, rfl⟩
  obtain ⟨N, hN⟩ : ∃ N, cntR qf qt L = N := ⟨_, rfl⟩
  obtain ⟨EE, hEE⟩ : ∃ x, protN L qf qt = x := ⟨_, rfl⟩
  rw [hE] at CK EP CNH RI
  rw [hM] at CC ⊢
  rw [hN] at EP CNH
  rw [hEE] at EP ⊢
  clear hE hM hN hEE
  obtain ⟨n, hn⟩ : ∃ n, L.length = n := ⟨_, rfl⟩
  rw [hn] at CK CC CNH ⊢
  clear hn
  by_cases cz : E = 0
  · subst cz
    have CN : Hid _ := CNH.out rfl
    obtain ⟨k1, k2, k3, k4⟩ := RI.out rfl
    have EQ : Hid (EE = if N < qt - qf then 5 else 0) := by
      have := EP.out
      rw [if_pos rfl] at this; exact this
    clear CNH RI EP
    by_cases cn : N < qt - qf
    · have e5 : EE = 5 := by rw [EQ.out, if_pos cn]
      subst e5
      have A1 : Hid (∀ W : World, Ans W w.heap.size (.slice none 0 0) 5 5 M) := fun W => Or.inl ⟨by omega, rfl, rfl⟩
      clear EQ
      go_enter Tryd.func10, Tryd.ntmps10
      go_wp2_with fail
      refine (CK.out _ (HI.out.below (Go.Joins.below_alloc2 _ _ _))).mono ?_
      rintro e u1 ⟨rfl, hb1⟩
      have b0 : u1.cell? ⟨w.heap.size, 0, none⟩ = some (.int .i64 qf) := (hb1.cell (p := ⟨w.heap.size, 0, none⟩) (by show w.heap.size < _; rw [World.size_alloc, World.size_alloc]; omega)).trans (by simp)
      have b1 : u1.cell? ⟨w.heap.size, 1, none⟩ = some (.int .i64 qt) := (hb1.cell (p := ⟨w.heap.size, 1, none⟩) (by show w.heap.size < _; rw [World.size_alloc, World.size_alloc]; omega)).trans (by simp)
      have m0 : u1.cell? ⟨w.heap.size + 1, 0, none⟩ = some (.bool pa) := (hb1.cell (p := ⟨w.heap.size + 1, 0, none⟩) (by show w.heap.size + 1 < _; rw [World.size_alloc, World.size_alloc]; omega)).trans (by simp)
      have m1 : u1.cell? ⟨w.heap.size + 1, 1, none⟩ = some (.bool pb) := (hb1.cell (p := ⟨w.heap.size + 1, 1, none⟩) (by show w.heap.size + 1 < _; rw [World.size_alloc, World.size_alloc]; omega)).trans (by simp)
      have m2 : u1.cell? ⟨w.heap.size + 1, 2, none⟩ = some (.bool pc) := (hb1.cell (p := ⟨w.heap.size + 1, 2, none⟩) (by show w.heap.size + 1 < _; rw [World.size_alloc, World.size_alloc]; omega)).trans (by simp)
      have lw : w.heap.size + 1 < u1.heap.size := Nat.lt_of_lt_of_le (by rw [World.size_alloc, World.size_alloc]; omega) hb1.size
      have B1 : Hid (Below w.heap.size w u1) := below_then (Go.Joins.below_alloc2 _ _ _) hb1
      clear hb1
      go_wp2_with fail
      refine wp_region_noPanic ?_
      refine wp_region_held_drew (S := fun c => c.cell? ⟨w.heap.size, 0, none⟩ = some (.int .i64 qf) ∧ c.cell? ⟨w.heap.size, 1, none⟩ = some (.int .i64 qt) ∧ c.cell? ⟨w.heap.size + 1, 0, none⟩ = some (.bool pa) ∧ c.cell? ⟨w.heap.size + 1, 1, none⟩ = some (.bool pb) ∧ c.cell? ⟨w.heap.size + 1, 2, none⟩ = some (.bool pc)) (by kernel_rfl) ?_ (fun hHeld => ?_)
      · exact ⟨b0, b1, m0, m1, m2⟩
      refine wpAnyH_take (i := 0) (oi := ⟨some 15, _, _, _, _, none⟩) (v := ?_) rfl (by kernel_rfl) (by kernel_rfl) (by kernel_rfl) (fun _ _ _ h => h) (Or.inl ⟨by rfl, ?_⟩) (by assumption) ?_
      rotate_left
      · intro w hSw; (try dsimp only at hSw); go_simp; (try with_reducible rfl)
      try simp only [Act.put, List.setIfInBounds_toArray, List.set_cons_zero, List.set_cons_succ]
      refine wpAnyH_take (i := 1) (oi := ⟨some 16, _, _, _, _, none⟩) (v := .agg #[.int .i64 qf, .int .i64 qt]) rfl (by kernel_rfl) (by kernel_rfl) (by kernel_rfl) (fun _ _ _ h => h) (Or.inl ⟨by rfl, ?_⟩) (by assumption) ?_
      · intro w hSw; (try dsimp only at hSw); go_simp; (try simp [hSw])
      try simp only [Act.put, List.setIfInBounds_toArray, List.set_cons_zero, List.set_cons_succ]
      refine wpAnyH_take (i := 3) (oi := ⟨some 18, _, _, _, _, none⟩) (v := ?_) rfl (by kernel_rfl) (by kernel_rfl) (by kernel_rfl) (fun _ _ _ h => h) (Or.inl ⟨by rfl, ?_⟩) (by assumption) ?_
      rotate_left
      · intro w hSw; (try dsimp only at hSw); go_simp; (try with_reducible rfl)
      try simp only [Act.put, List.setIfInBounds_toArray, List.set_cons_zero, List.set_cons_succ]
      refine wpAnyH_take (i := 4) (oi := ⟨some 19, _, _, _, _, none⟩) (v := ?_) rfl (by kernel_rfl) (by kernel_rfl) (by kernel_rfl) (fun _ _ _ h => h) (Or.inl ⟨by rfl, ?_⟩) (by assumption) ?_
      rotate_left
      · intro w hSw; (try dsimp only at hSw); go_simp; (try with_reducible rfl)
      try simp only [Act.put, List.setIfInBounds_toArray, List.set_cons_zero, List.set_cons_succ]
      refine wpAnyH_take (i := 5) (oi := ⟨some 20, _, _, _, _, none⟩) (v := ?_) rfl (by kernel_rfl) (by kernel_rfl) (by kernel_rfl) (fun _ _ _ h => h) (Or.inl ⟨by rfl, ?_⟩) (by assumption) ?_
      rotate_left
      · intro w hSw; (try dsimp only at hSw); go_simp; (try with_reducible rfl)
      try simp only [Act.put, List.setIfInBounds_toArray, List.set_cons_zero, List.set_cons_succ]
      refine wpAnyH_take (i := 6) (oi := ⟨some 21, _, _, _, _, none⟩) (v := ?_) rfl (by kernel_rfl) (by kernel_rfl) (by kernel_rfl) (fun _ _ _ h => h) (Or.inl ⟨by rfl, ?_⟩) (by assumption) ?_
      rotate_left
      · intro w hSw; (try dsimp only at hSw); go_simp; (try with_reducible rfl)
      try simp only [Act.put, List.setIfInBounds_toArray, List.set_cons_zero, List.set_cons_succ]
      refine wpAnyH_take (i := 7) (oi := ⟨some 22, _, _, _, _, none⟩) (v := .int .i64 (qt - qf)) rfl (by kernel_rfl) (by kernel_rfl) (by kernel_rfl) (fun _ _ _ h => h) (Or.inl ⟨by rfl, ?_⟩) (by assumption) ?_
      · intro w hSw; (try dsimp only at hSw); go_simp; (try simp); (try (simp only [IntKind.wrap_i64])); (try omega)
      try simp only [Act.put, List.setIfInBounds_toArray, List.set_cons_zero, List.set_cons_succ]
      have BD : Hid (Below w.heap.size w u1.drew) := below_drew B1.out
      have lD : w.heap.size + 1 < u1.drew.heap.size := lw
      clear B1 b0 b1 m0 m1 m2 lw
      generalize u1.drew = U at BD lD hHeld ⊢
      refine wpAnyH_ready (rs := [2]) (by kernel_rfl) (by simp) ?_
      refine AllReadyH.cons (o := ⟨some 17, _, _, _, _, none⟩) rfl (fun K hK => ?_) AllReadyH.nil
      go_simp
      go_wp2_with (go_at_call 17; refine (CN.out _ (HI.out.below BD.out)).mono ?_; rintro e u3 ⟨rfl, hb3⟩)
      have B3 : Hid (Below w.heap.size w u3) := below_then BD.out hb3
      obtain ⟨i0, i1, i2, i3, i4⟩ := hHeld
      have l3 : w.heap.size + 1 < u3.heap.size := Nat.lt_of_lt_of_le lD hb3.size
      have b0 : u3.cell? ⟨w.heap.size, 0, none⟩ = some (.int .i64 qf) := (hb3.cell (p := ⟨w.heap.size, 0, none⟩) (by show w.heap.size < _; omega)).trans i0
      have b1 : u3.cell? ⟨w.heap.size, 1, none⟩ = some (.int .i64 qt) := (hb3.cell (p := ⟨w.heap.size, 1, none⟩) (by show w.heap.size < _; omega)).trans i1
      have m0 : u3.cell? ⟨w.heap.size + 1, 0, none⟩ = some (.bool pa) := (hb3.cell (p := ⟨w.heap.size + 1, 0, none⟩) (by show w.heap.size + 1 < _; omega)).trans i2
      have m1 : u3.cell? ⟨w.heap.size + 1, 1, none⟩ = some (.bool pb) := (hb3.cell (p := ⟨w.heap.size + 1, 1, none⟩) (by show w.heap.size + 1 < _; omega)).trans i3
      have m2 : u3.cell? ⟨w.heap.size + 1, 2, none⟩ = some (.bool pc) := (hb3.cell (p := ⟨w.heap.size + 1, 2, none⟩) (by show w.heap.size + 1 < _; omega)).trans i4
      refine hK.out _ _ ⟨b0, b1, m0, m1, m2⟩ (fun hHeld => ?_)
      clear hK K i0 i1 i2 i3 i4 hb3 BD lD
      try simp only [Act.put, List.setIfInBounds_toArray, List.set_cons_zero, List.set_cons_succ]
      refine wpAnyH_take (i := 8) (oi := ⟨some 23, _, _, _, _, none⟩) (v := .bool true) rfl (by kernel_rfl) (by kernel_rfl) (by kernel_rfl) (fun _ _ _ h => h) (Or.inl ⟨by rfl, ?_⟩) (by assumption) ?_
      · intro w hSw; (try dsimp only at hSw); go_simp; (try simp); (try omega)
      try simp only [Act.put, List.setIfInBounds_toArray, List.set_cons_zero, List.set_cons_succ]
      clear hHeld
      refine wpAnyH_done (by kernel_rfl) ?_ _
      refine NoPanic.normal ?_
      go_wp2_with fail
      go_returns
      exact ⟨.slice none 0 0, 5, rfl, A1.out _, B3.out⟩
    · have e5 : EE = 0 := by rw [EQ.out, if_neg cn]
      subst e5
      clear EQ
      go_enter Tryd.func10, Tryd.ntmps10
      go_wp2_with fail
      refine (CK.out _ (HI.out.below (Go.Joins.below_alloc2 _ _ _))).mono ?_
      rintro e u1 ⟨rfl, hb1⟩
      have b0 : u1.cell? ⟨w.heap.size, 0, none⟩ = some (.int .i64 qf) := (hb1.cell (p := ⟨w.heap.size, 0, none⟩) (by show w.heap.size < _; rw [World.size_alloc, World.size_alloc]; omega)).trans (by simp)
      have b1 : u1.cell? ⟨w.heap.size, 1, none⟩ = some (.int .i64 qt) := (hb1.cell (p := ⟨w.heap.size, 1, none⟩) (by show w.heap.size < _; rw [World.size_alloc, World.size_alloc]; omega)).trans (by simp)
      have m0 : u1.cell? ⟨w.heap.size + 1, 0, none⟩ = some (.bool pa) := (hb1.cell (p := ⟨w.heap.size + 1, 0, none⟩) (by show w.heap.size + 1 < _; rw [World.size_alloc, World.size_alloc]; omega)).trans (by simp)
      have m1 : u1.cell? ⟨w.heap.size + 1, 1, none⟩ = some (.bool pb) := (hb1.cell (p := ⟨w.heap.size + 1, 1, none⟩) (by show w.heap.size + 1 < _; rw [World.size_alloc, World.size_alloc]; omega)).trans (by simp)
      have m2 : u1.cell? ⟨w.heap.size + 1, 2, none⟩ = some (.bool pc) := (hb1.cell (p := ⟨w.heap.size + 1, 2, none⟩) (by show w.heap.size + 1 < _; rw [World.size_alloc, World.size_alloc]; omega)).trans (by simp)
      have lw : w.heap.size + 1 < u1.heap.size := Nat.lt_of_lt_of_le (by rw [World.size_alloc, World.size_alloc]; omega) hb1.size
      have B1 : Hid (Below w.heap.size w u1) := below_then (Go.Joins.below_alloc2 _ _ _) hb1
      clear hb1
      go_wp2_with fail
      refine wp_region_noPanic ?_
      refine wp_region_held_drew (S := fun c => c.cell? ⟨w.heap.size, 0, none⟩ = some (.int .i64 qf) ∧ c.cell? ⟨w.heap.size, 1, none⟩ = some (.int .i64 qt) ∧ c.cell? ⟨w.heap.size + 1, 0, none⟩ = some (.bool pa) ∧ c.cell? ⟨w.heap.size + 1, 1, none⟩ = some (.bool pb) ∧ c.cell? ⟨w.heap.size + 1, 2, none⟩ = some (.bool pc)) (by kernel_rfl) ?_ (fun hHeld => ?_)
      · exact ⟨b0, b1, m0, m1, m2⟩
      refine wpAnyH_take (i := 0) (oi := ⟨some 15, _, _, _, _, none⟩) (v := ?_) rfl (by kernel_rfl) (by kernel_rfl) (by kernel_rfl) (fun _ _ _ h => h) (Or.inl ⟨by rfl, ?_⟩) (by assumption) ?_
      rotate_left
      · intro w hSw; (try dsimp only at hSw); go_simp; (try with_reducible rfl)
      try simp only [Act.put, List.setIfInBounds_toArray, List.set_cons_zero, List.set_cons_succ]
      refine wpAnyH_take (i := 1) (oi := ⟨some 16, _, _, _, _, none⟩) (v := .agg #[.int .i64 qf, .int .i64 qt]) rfl (by kernel_rfl) (by kernel_rfl) (by kernel_rfl) (fun _ _ _ h => h) (Or.inl ⟨by rfl, ?_⟩) (by assumption) ?_
      · intro w hSw; (try dsimp only at hSw); go_simp; (try simp [hSw])
      try simp only [Act.put, List.setIfInBounds_toArray, List.set_cons_zero, List.set_cons_succ]
      refine wpAnyH_take (i := 3) (oi := ⟨some 18, _, _, _, _, none⟩) (v := ?_) rfl (by kernel_rfl) (by kernel_rfl) (by kernel_rfl) (fun _ _ _ h => h) (Or.inl ⟨by rfl, ?_⟩) (by assumption) ?_
      rotate_left
      · intro w hSw; (try dsimp only at hSw); go_simp; (try with_reducible rfl)
      try simp only [Act.put, List.setIfInBounds_toArray, List.set_cons_zero, List.set_cons_succ]
      refine wpAnyH_take (i := 4) (oi := ⟨some 19, _, _, _, _, none⟩) (v := ?_) rfl (by kernel_rfl) (by kernel_rfl) (by kernel_rfl) (fun _ _ _ h => h) (Or.inl ⟨by rfl, ?_⟩) (by assumption) ?_
      rotate_left
      · intro w hSw; (try dsimp only at hSw); go_simp; (try with_reducible rfl)
      try simp only [Act.put, List.setIfInBounds_toArray, List.set_cons_zero, List.set_cons_succ]
      refine wpAnyH_take (i := 5) (oi := ⟨some 20, _, _, _, _, none⟩) (v := ?_) rfl (by kernel_rfl) (by kernel_rfl) (by kernel_rfl) (fun _ _ _ h => h) (Or.inl ⟨by rfl, ?_⟩) (by assumption) ?_
      rotate_left
      · intro w hSw; (try dsimp only at hSw); go_simp; (try with_reducible rfl)
      try simp only [Act.put, List.setIfInBounds_toArray, List.set_cons_zero, List.set_cons_succ]
      refine wpAnyH_take (i := 6) (oi := ⟨some 21, _, _, _, _, none⟩) (v := ?_) rfl (by kernel_rfl) (by kernel_rfl) (by kernel_rfl) (fun _ _ _ h => h) (Or.inl ⟨by rfl, ?_⟩) (by assumption) ?_
      rotate_left
      · intro w hSw; (try dsimp only at hSw); go_simp; (try with_reducible rfl)
      try simp only [Act.put, List.setIfInBounds_toArray, List.set_cons_zero, List.set_cons_succ]
      refine wpAnyH_take (i := 7) (oi := ⟨some 22, _, _, _, _, none⟩) (v := .int .i64 (qt - qf)) rfl (by kernel_rfl) (by kernel_rfl) (by kernel_rfl) (fun _ _ _ h => h) (Or.inl ⟨by rfl, ?_⟩) (by assumption) ?_
      · intro w hSw; (try dsimp only at hSw); go_simp; (try simp); (try (simp only [IntKind.wrap_i64])); (try omega)
      try simp only [Act.put, List.setIfInBounds_toArray, List.set_cons_zero, List.set_cons_succ]
      have BD : Hid (Below w.heap.size w u1.drew) := below_drew B1.out
      have lD : w.heap.size + 1 < u1.drew.heap.size := lw
      clear B1 b0 b1 m0 m1 m2 lw
      generalize u1.drew = U at BD lD hHeld ⊢
      refine wpAnyH_ready (rs := [2]) (by kernel_rfl) (by simp) ?_
      refine AllReadyH.cons (o := ⟨some 17, _, _, _, _, none⟩) rfl (fun K hK => ?_) AllReadyH.nil
      go_simp
      go_wp2_with (go_at_call 17; refine (CN.out _ (HI.out.below BD.out)).mono ?_; rintro e u3 ⟨rfl, hb3⟩)
      have B3 : Hid (Below w.heap.size w u3) := below_then BD.out hb3
      obtain ⟨i0, i1, i2, i3, i4⟩ := hHeld
      have l3 : w.heap.size + 1 < u3.heap.size := Nat.lt_of_lt_of_le lD hb3.size
      have b0 : u3.cell? ⟨w.heap.size, 0, none⟩ = some (.int .i64 qf) := (hb3.cell (p := ⟨w.heap.size, 0, none⟩) (by show w.heap.size < _; omega)).trans i0
      have b1 : u3.cell? ⟨w.heap.size, 1, none⟩ = some (.int .i64 qt) := (hb3.cell (p := ⟨w.heap.size, 1, none⟩) (by show w.heap.size < _; omega)).trans i1
      have m0 : u3.cell? ⟨w.heap.size + 1, 0, none⟩ = some (.bool pa) := (hb3.cell (p := ⟨w.heap.size + 1, 0, none⟩) (by show w.heap.size + 1 < _; omega)).trans i2
      have m1 : u3.cell? ⟨w.heap.size + 1, 1, none⟩ = some (.bool pb) := (hb3.cell (p := ⟨w.heap.size + 1, 1, none⟩) (by show w.heap.size + 1 < _; omega)).trans i3
      have m2 : u3.cell? ⟨w.heap.size + 1, 2, none⟩ = some (.bool pc) := (hb3.cell (p := ⟨w.heap.size + 1, 2, none⟩) (by show w.heap.size + 1 < _; omega)).trans i4
      refine hK.out _ _ ⟨b0, b1, m0, m1, m2⟩ (fun hHeld => ?_)
      clear hK K i0 i1 i2 i3 i4 hb3 BD lD
      try simp only [Act.put, List.setIfInBounds_toArray, List.set_cons_zero, List.set_cons_succ]
      refine wpAnyH_take (i := 8) (oi := ⟨some 23, _, _, _, _, none⟩) (v := .bool false) rfl (by kernel_rfl) (by kernel_rfl) (by kernel_rfl) (fun _ _ _ h => h) (Or.inl ⟨by rfl, ?_⟩) (by assumption) ?_
      · intro w hSw; (try dsimp only at hSw); go_simp; (try simp); (try omega)
      try simp only [Act.put, List.setIfInBounds_toArray, List.set_cons_zero, List.set_cons_succ]
      clear hHeld
      refine wpAnyH_done (by kernel_rfl) ?_ _
      refine NoPanic.normal ?_
      go_wp2_with fail
      refine (CC.out _ (w.heap.size + 1) l3 ⟨m0, m1, m2⟩ (HI.out.below B3.out)).mono ?_
      rintro e u4 ⟨v, er, rfl, hr, hb4⟩
      have B4 : Hid (Below w.heap.size w u4) := below_then B3.out hb4
      have A4 : Hid (Ans u4 w.heap.size v er 0 M) := Or.inr ⟨rfl, hr.weak (by omega)⟩
      clear hr hb4
      go_wp2_with fail
      go_returns
      exact ⟨v, er, rfl, A4.out, B4.out⟩
  · have eb : (E == 0) = false := by simp [cz]
    have ee : EE = E := by rw [EP.out, if_neg cz]
    subst ee
    have A1 : Hid (∀ W : World, Ans W w.heap.size (.slice none 0 0) EE EE M) := fun W => Or.inl ⟨cz, rfl, rfl⟩
    clear cz EP CNH RI
    go_enter Tryd.func10, Tryd.ntmps10
    go_wp2_with fail
    refine (CK.out _ (HI.out.below (Go.Joins.below_alloc2 _ _ _))).mono ?_
    rintro e u1 ⟨rfl, hb1⟩
    have B1 : Hid (Below w.heap.size w u1) := below_then (Go.Joins.below_alloc2 _ _ _) hb1
    clear hb1
    go_wp2_with fail
    go_returns
    exact ⟨.slice none 0 0, EE, rfl, A1.out _, B1.out⟩
end Go.Proofs.YtkiclbnbnjbcaabDoor.Re
namespace Go.Proofs.YtkiclbnbnjbcaabDoor.Re
open Go.ChangeShapes Go.WideShapes Go.ChangeAt Go.RowKit Go.Maps
set_option linter.unusedSimpArgs false
set_option linter.unusedVariables false
set_option maxRecDepth 8000

set_option maxHeartbeats 8000000 in
theorem add_any (base : Nat) (p : Option Addr) (c : Nat) (L : List Rg) (hL : L.length ≤ 100) (hc : L.length ≤ c) (r : Rg) (w : World) (h : IsL w base p L) :
    Calls Tryd.prog 8 #[.slice p L.length c, r.val] w fun e w' => ∃ v er, e = .returned (.tuple #[v, .int .i64 er]) ∧ Ans w' w.heap.size v er (addN L r) (addL L r) ∧ Below w.heap.size w w' := by
  have HI : Hid (IsL w base p L) := h
  obtain ⟨r1, r2, r3, r4, r5, r6⟩ := r
  have CK : Hid (∀ W : World, IsL W base p L → Calls Tryd.prog 26 #[.slice p L.length c, rgV r1 r2] W fun e w' => e = .returned (.int .i64 (checkN L r1 r2)) ∧ Below W.heap.size W w') := fun W h => check_any base p c L hL r1 r2 W h
  have CNH : Hid (checkN L r1 r2 = 0 → ∀ W : World, IsL W base p L → Calls Tryd.prog 17 #[.slice p L.length c, rgV r1 r2] W fun e w' => e = .returned (.int .i64 (cntR r1 r2 L)) ∧ Below W.heap.size W w') := fun q W h => count_any base p c L hL (good_num (check_zero q).2) r1 r2 W h
  have WI : Hid (∀ (base : Nat) (v : Value) (M : List Rg), M.length ≤ 1000 → ∀ (r : Rg) (W : World), base ≤ W.heap.size → OwnL W base v M → Calls Tryd.prog 27 #[v, r.val] W fun e w' => ∃ v', e = .returned v' ∧ OwnL w' base v' (withL M r) ∧ WithK W w' v v') := fun base v M hM r W hW ho => with_any base v M hM r W hW ho
  have FY : Hid (∀ (q : Option Addr) (n d : Nat), n ≤ 64 → ∀ W : World, Calls Tryd.prog 28 #[.slice q n d] W fun e w' => e = .returned (.tuple #[.slice q n d, .int .i64 0]) ∧ Below W.heap.size W w') := fun q n d hn W => few_yes q n d hn W
  have FN : Hid (∀ (q : Option Addr) (n d : Nat), 64 < n → n ≤ 1000 → ∀ W : World, Calls Tryd.prog 28 #[.slice q n d] W fun e w' => e = .returned (.tuple #[.slice none 0 0, .int .i64 4]) ∧ Below W.heap.size W w') := fun q n d hn hm W => few_no q n d hn hm W
  have EP : Hid (addN L ⟨r1, r2, r3, r4, r5, r6⟩ = if checkN L r1 r2 = 0 then (if 0 < cntR r1 r2 L then 6 else 0) else checkN L r1 r2) := rfl
  obtain ⟨E, hE⟩ : ∃ E, checkN L r1 r2 = E := ⟨_, rfl⟩
  obtain ⟨N, hN⟩ : ∃ N, cntR r1 r2 L = N := ⟨_, rfl⟩
  obtain ⟨EE, hEE⟩ : ∃ x, addN L ⟨r1, r2, r3, r4, r5, r6⟩ = x := ⟨_, rfl⟩
  obtain ⟨MM, hMM⟩ : ∃ x, addL L ⟨r1, r2, r3, r4, r5, r6⟩ = x := ⟨_, rfl⟩
  rw [hE] at CK EP CNH
  rw [hN] at EP CNH
  rw [hEE] at EP ⊢
  rw [hMM]
  have HM : Hid (addL L ⟨r1, r2, r3, r4, r5, r6⟩ = MM) := hMM
  clear hE hN hEE hMM h
  by_cases cz : E = 0
  rotate_left
  · have eb : (E == 0) = false := by simp [cz]
    have ee : EE = E := by rw [EP.out, if_neg cz]
    subst ee
    have A1 : Hid (∀ W : World, Ans W w.heap.size (.slice none 0 0) EE EE MM) := fun W => Or.inl ⟨cz, rfl, rfl⟩
    clear cz EP CNH
    go_enter Tryd.func8, Tryd.ntmps8
    go_wp2_with fail
    refine (CK.out _ (HI.out.below (Go.Joins.below_alloc1 _ _))).mono ?_
    rintro e u1 ⟨rfl, hb1⟩
    have B1 : Hid (Below w.heap.size w u1) := below_then (Go.Joins.below_alloc1 _ _) hb1
    clear hb1
    go_wp2_with fail
    go_returns
    exact ⟨.slice none 0 0, EE, rfl, A1.out _, B1.out⟩
  subst cz
  have CN : Hid _ := CNH.out rfl
  have EQ : Hid (EE = if 0 < N then 6 else 0) := by
    have := EP.out
    rw [if_pos rfl] at this; exact this
  clear CNH EP
  go_enter Tryd.func8, Tryd.ntmps8
  go_wp2_with fail
  refine (CK.out _ (HI.out.below (Go.Joins.below_alloc1 _ _))).mono ?_
  rintro e u1 ⟨rfl, hb1⟩
  have F1 : Hid (u1.heap[w.heap.size]? = some (.cells #[.int .i64 r1, .int .i64 r2, .bool r3, .bool r4, .bool r5, .int .i64 r6] 46 (0, 0))) := (hb1.block _ (by simp)).trans (own1 w _)
  have b0 : u1.cell? ⟨w.heap.size, 0, none⟩ = some (.int .i64 r1) := Go.Joins.cell_of_block F1.out 0
  have b1 : u1.cell? ⟨w.heap.size, 1, none⟩ = some (.int .i64 r2) := Go.Joins.cell_of_block F1.out 1
  have lw : w.heap.size < u1.heap.size := blk_lt F1.out
  have B1 : Hid (Below w.heap.size w u1) := below_then (Go.Joins.below_alloc1 _ _) hb1
  clear hb1
  go_wp2_with fail
  refine (CN.out _ (HI.out.below B1.out)).mono ?_
  rintro e u2 ⟨rfl, hb2⟩
  have F2 : Hid (u2.heap[w.heap.size]? = some (.cells #[.int .i64 r1, .int .i64 r2, .bool r3, .bool r4, .bool r5, .int .i64 r6] 46 (0, 0))) := (hb2.block _ lw).trans F1.out
  have B2 : Hid (Below w.heap.size w u2) := below_then B1.out hb2
  clear hb2 b0 b1 lw F1 B1 CN CK
  by_cases cn : 0 < N
  · have e6 : EE = 6 := by rw [EQ.out, if_pos cn]
    subst e6
    have A1 : Hid (∀ W : World, Ans W w.heap.size (.slice none 0 0) 6 6 MM) := fun W => Or.inl ⟨by omega, rfl, rfl⟩
    have dn : decide (0 < N) = true := by simp [cn]
    go_wp2_with fail
    go_returns
    exact ⟨.slice none 0 0, 6, rfl, A1.out _, B2.out⟩
  have e6 : EE = 0 := by rw [EQ.out, if_neg cn]
  subst e6
  have dn : decide (0 < N) = false := by simp; omega
  clear EQ cn
  have LO : Hid (LowL u2 u2.heap.size p L) := (HI.out.below B2.out).lowl (Nat.le_refl _)
  have lw2 : w.heap.size < u2.heap.size := blk_lt F2.out
  obtain ⟨b, hb⟩ : ∃ b, u2.heap.size = b := ⟨_, rfl⟩
  rw [hb] at LO lw2
  have HB : Hid (u2.heap.size = b) := hb
  clear hb HI
  go_wp2_with fail
  go_loopw [7, 8] (fun v x W => ∃ k : Nat, k ≤ L.length ∧ x = .int .i64 k ∧ Hid (OwnL W b v (preL [] (L.take k))) ∧ Hid (Below b u2 W) ∧ Hid (∀ j, j < k → (L.getD j Rg.zero).tt ≤ r1)) (fun _ x _ => L.length - (intOf x).toNat)
  case atStart => exact ⟨0, by omega, rfl, ⟨by simp [preL], Or.inl ⟨rfl, rfl⟩⟩, Below.refl _ _, fun j hj => absurd hj (Nat.not_lt_zero _)⟩
  case round =>
    obtain ⟨k, hk, rfl, hO, hW, hJ⟩ := hrel
    have lb : b ≤ wr.heap.size := by have := hW.out.size; rw [HB.out] at this; exact this
    have FW : Hid (wr.heap[w.heap.size]? = some (.cells #[.int .i64 r1, .int .i64 r2, .bool r3, .bool r4, .bool r5, .int .i64 r6] 46 (0, 0))) := (hW.out.block _ lw2).trans F2.out
    have lww : w.heap.size < wr.heap.size := blk_lt FW.out
    have x0 : wr.cell? ⟨w.heap.size, 0, none⟩ = some (.int .i64 r1) := Go.Joins.cell_of_block FW.out 0
    have x1 : wr.cell? ⟨w.heap.size, 1, none⟩ = some (.int .i64 r2) := Go.Joins.cell_of_block FW.out 1
    have x2 : wr.cell? ⟨w.heap.size, 2, none⟩ = some (.bool r3) := Go.Joins.cell_of_block FW.out 2
    have x3 : wr.cell? ⟨w.heap.size, 3, none⟩ = some (.bool r4) := Go.Joins.cell_of_block FW.out 3
    have x4 : wr.cell? ⟨w.heap.size, 4, none⟩ = some (.bool r5) := Go.Joins.cell_of_block FW.out 4
    have x5 : wr.cell? ⟨w.heap.size, 5, none⟩ = some (.int .i64 r6) := Go.Joins.cell_of_block FW.out 5
    by_cases hlk : k < L.length
    · obtain ⟨gl, ep, gl1, gc⟩ := (LO.out.low hW.out) k hlk
      subst ep
      have NX : Hid (preL [] (L.take (k + 1)) = withL (preL [] (L.take k)) (L.getD k Rg.zero)) := pre_next [] L k hlk
      have QE : Hid ((L.getD k Rg.zero).tt = (L.getD k Rg.zero).tt) := rfl
      obtain ⟨rr, hrr⟩ : ∃ rr, L.getD k Rg.zero = rr := ⟨_, rfl⟩
      rw [hrr] at gc NX QE
      have HR : Hid (L.getD k Rg.zero = rr) := hrr
      clear hrr QE
      obtain ⟨q1, q2, q3, q4, q5, q6⟩ := rr
      have QE : Hid ((L.getD k Rg.zero).tt = q2) := by show _ = _; rw [HR.out]
      have y0 : wr.cell? ⟨gl, k * 6, none⟩ = some (.int .i64 q1) := gc 0 _ rfl
      have y1 : wr.cell? ⟨gl, k * 6 + 1, none⟩ = some (.int .i64 q2) := gc 1 _ rfl
      have y2 : wr.cell? ⟨gl, k * 6 + 2, none⟩ = some (.bool q3) := gc 2 _ rfl
      have y3 : wr.cell? ⟨gl, k * 6 + 3, none⟩ = some (.bool q4) := gc 3 _ rfl
      have y4 : wr.cell? ⟨gl, k * 6 + 4, none⟩ = some (.bool q5) := gc 4 _ rfl
      have y5 : wr.cell? ⟨gl, k * 6 + 5, none⟩ = some (.int .i64 q6) := gc 5 _ rfl
      clear gc
      have glw : gl < wr.heap.size := by omega
      by_cases cq : q2 ≤ r1
      · have PL : Hid ((preL [] (L.take k)).length ≤ 100) := by have := pre_len [] L k hk; simp at this; exact Nat.le_trans this (by omega)
        go_wp2_with fail
        refine wp_region_noPanic ?_
        refine wp_region_held_drew (S := fun c => c.cell? ⟨w.heap.size, 0, none⟩ = some (.int .i64 r1) ∧ c.cell? ⟨gl, k * 6 + 1, none⟩ = some (.int .i64 q2)) (by kernel_rfl) ?_ (fun hHeld => ?_)
        · exact ⟨x0, y1⟩
        refine wpAnyH_take (i := 0) (oi := ⟨some 23, _, _, _, _, none⟩) (v := ?_) rfl (by kernel_rfl) (by kernel_rfl) (by kernel_rfl) (fun _ _ _ h => h) (Or.inl ⟨by rfl, ?_⟩) (by assumption) ?_
        rotate_left
        · intro w hSw; (try dsimp only at hSw); go_simp; (try with_reducible rfl)
        try simp only [Act.put, List.setIfInBounds_toArray, List.set_cons_zero, List.set_cons_succ]
        refine wpAnyH_take (i := 1) (oi := ⟨some 24, _, _, _, _, none⟩) (v := ?_) rfl (by kernel_rfl) (by kernel_rfl) (by kernel_rfl) (fun _ _ _ h => h) (Or.inl ⟨by rfl, ?_⟩) (by assumption) ?_
        rotate_left
        · intro w hSw; (try dsimp only at hSw); go_simp; (try with_reducible rfl)
        try simp only [Act.put, List.setIfInBounds_toArray, List.set_cons_zero, List.set_cons_succ]
        refine wpAnyH_take (i := 2) (oi := ⟨some 25, _, _, _, _, none⟩) (v := ?_) rfl (by kernel_rfl) (by kernel_rfl) (by kernel_rfl) (fun _ _ _ h => h) (Or.inl ⟨by rfl, ?_⟩) (by assumption) ?_
        rotate_left
        · intro w hSw; (try dsimp only at hSw); go_simp; (try with_reducible rfl)
        try simp only [Act.put, List.setIfInBounds_toArray, List.set_cons_zero, List.set_cons_succ]
        refine wpAnyH_take (i := 3) (oi := ⟨some 26, _, _, _, _, none⟩) (v := .bool true) rfl (by kernel_rfl) (by kernel_rfl) (by kernel_rfl) (fun _ _ _ h => h) (Or.inl ⟨by rfl, ?_⟩) (by assumption) ?_
        · intro w hSw; (try dsimp only at hSw); go_simp; (try simp); (try omega)
        try simp only [Act.put, List.setIfInBounds_toArray, List.set_cons_zero, List.set_cons_succ]
        refine wpAnyH_take (i := 4) (oi := ⟨some 27, _, _, _, _, none⟩) (v := ?_) rfl (by kernel_rfl) (by kernel_rfl) (by kernel_rfl) (fun _ _ _ h => h) (Or.inl ⟨by rfl, ?_⟩) (by assumption) ?_
        rotate_left
        · intro w hSw; (try dsimp only at hSw); go_simp; (try with_reducible rfl)
        try simp only [Act.put, List.setIfInBounds_toArray, List.set_cons_zero, List.set_cons_succ]
        refine wpAnyH_take (i := 5) (oi := ⟨some 28, _, _, _, _, some (4, true)⟩) (v := ?_) rfl (by kernel_rfl) (by kernel_rfl) (by kernel_rfl) (fun _ _ _ h => h) (Or.inl ⟨by rfl, ?_⟩) (by assumption) ?_
        rotate_left
        · intro w hSw; (try dsimp only at hSw); go_simp; (try with_reducible rfl)
        try simp only [Act.put, List.setIfInBounds_toArray, List.set_cons_zero, List.set_cons_succ]
        refine wpAnyH_take (i := 6) (oi := ⟨some 29, _, _, _, _, some (4, true)⟩) (v := ?_) rfl (by kernel_rfl) (by kernel_rfl) (by kernel_rfl) (fun _ _ _ h => h) (Or.inl ⟨by rfl, ?_⟩) (by assumption) ?_
        rotate_left
        · intro w hSw; (try dsimp only at hSw); go_simp; (try with_reducible rfl)
        try simp only [Act.put, List.setIfInBounds_toArray, List.set_cons_zero, List.set_cons_succ]
        refine wpAnyH_take (i := 7) (oi := ⟨some 30, _, _, _, _, some (4, true)⟩) (v := (.pointer (some ⟨gl, k * 6, none⟩))) rfl (by kernel_rfl) (by kernel_rfl) (by kernel_rfl) (fun _ _ _ h => h) (Or.inl ⟨by rfl, ?_⟩) (by assumption) ?_
        · intro w hSw; (try dsimp only at hSw); go_simp; (try simp [hlk]); (try omega)
        try simp only [Act.put, List.setIfInBounds_toArray, List.set_cons_zero, List.set_cons_succ]
        refine wpAnyH_take (i := 8) (oi := ⟨some 31, _, _, _, _, some (4, true)⟩) (v := ?_) rfl (by kernel_rfl) (by kernel_rfl) (by kernel_rfl) (fun _ _ _ h => h) (Or.inl ⟨by rfl, ?_⟩) (by assumption) ?_
        rotate_left
        · intro w hSw; (try dsimp only at hSw); go_simp; (try with_reducible rfl)
        try simp only [Act.put, List.setIfInBounds_toArray, List.set_cons_zero, List.set_cons_succ]
        refine wpAnyH_take (i := 9) (oi := ⟨some 32, _, _, _, _, some (4, true)⟩) (v := ?_) rfl (by kernel_rfl) (by kernel_rfl) (by kernel_rfl) (fun _ _ _ h => h) (Or.inl ⟨by rfl, ?_⟩) (by assumption) ?_
        rotate_left
        · intro w hSw; (try dsimp only at hSw); go_simp; (try with_reducible rfl)
        try simp only [Act.put, List.setIfInBounds_toArray, List.set_cons_zero, List.set_cons_succ]
        refine wpAnyH_take (i := 10) (oi := ⟨some 33, _, _, _, _, some (4, true)⟩) (v := .int .i64 q2) rfl (by kernel_rfl) (by kernel_rfl) (by kernel_rfl) (fun _ _ _ h => h) (Or.inl ⟨by rfl, ?_⟩) (by assumption) ?_
        · intro w hSw; (try dsimp only at hSw); go_simp; (try simp [hSw])
        try simp only [Act.put, List.setIfInBounds_toArray, List.set_cons_zero, List.set_cons_succ]
        refine wpAnyH_take (i := 11) (oi := ⟨some 34, _, _, _, _, some (4, true)⟩) (v := ?_) rfl (by kernel_rfl) (by kernel_rfl) (by kernel_rfl) (fun _ _ _ h => h) (Or.inl ⟨by rfl, ?_⟩) (by assumption) ?_
        rotate_left
        · intro w hSw; (try dsimp only at hSw); go_simp; (try with_reducible rfl)
        try simp only [Act.put, List.setIfInBounds_toArray, List.set_cons_zero, List.set_cons_succ]
        refine wpAnyH_take (i := 12) (oi := ⟨some 35, _, _, _, _, some (4, true)⟩) (v := ?_) rfl (by kernel_rfl) (by kernel_rfl) (by kernel_rfl) (fun _ _ _ h => h) (Or.inl ⟨by rfl, ?_⟩) (by assumption) ?_
        rotate_left
        · intro w hSw; (try dsimp only at hSw); go_simp; (try with_reducible rfl)
        try simp only [Act.put, List.setIfInBounds_toArray, List.set_cons_zero, List.set_cons_succ]
        refine wpAnyH_take (i := 13) (oi := ⟨some 36, _, _, _, _, some (4, true)⟩) (v := .int .i64 r1) rfl (by kernel_rfl) (by kernel_rfl) (by kernel_rfl) (fun _ _ _ h => h) (Or.inl ⟨by rfl, ?_⟩) (by assumption) ?_
        · intro w hSw; (try dsimp only at hSw); go_simp; (try simp [hSw])
        try simp only [Act.put, List.setIfInBounds_toArray, List.set_cons_zero, List.set_cons_succ]
        refine wpAnyH_take (i := 14) (oi := ⟨some 37, _, _, _, _, some (4, true)⟩) (v := .bool true) rfl (by kernel_rfl) (by kernel_rfl) (by kernel_rfl) (fun _ _ _ h => h) (Or.inl ⟨by rfl, ?_⟩) (by assumption) ?_
        · intro w hSw; (try dsimp only at hSw); go_simp; (try simp); (try omega)
        try simp only [Act.put, List.setIfInBounds_toArray, List.set_cons_zero, List.set_cons_succ]
        refine wpAnyH_take (i := 15) (oi := ⟨some 38, _, _, _, _, none⟩) (v := ?_) rfl (by kernel_rfl) (by kernel_rfl) (by kernel_rfl) (fun _ _ _ h => h) (Or.inl ⟨by rfl, ?_⟩) (by assumption) ?_
        rotate_left
        · intro w hSw; (try dsimp only at hSw); go_simp; (try with_reducible rfl)
        try simp only [Act.put, List.setIfInBounds_toArray, List.set_cons_zero, List.set_cons_succ]
        clear hHeld
        refine wpAnyH_done (by kernel_rfl) ?_ _
        refine NoPanic.normal ?_
        have OV : Hid (OwnL wr.drew b u7 (preL [] (L.take k))) := OwnL.below hO.out (below_drew (Below.refl _ _))
        have BV : Hid (Below b u2 wr.drew) := below_drew hW.out
        have FV : Hid (wr.drew.heap[w.heap.size]? = some (.cells #[.int .i64 r1, .int .i64 r2, .bool r3, .bool r4, .bool r5, .int .i64 r6] 46 (0, 0))) := FW.out
        have lV : b ≤ wr.drew.heap.size := lb
        have z0 : wr.drew.cell? ⟨gl, k * 6, none⟩ = some (.int .i64 q1) := y0
        have z1 : wr.drew.cell? ⟨gl, k * 6 + 1, none⟩ = some (.int .i64 q2) := y1
        have z2 : wr.drew.cell? ⟨gl, k * 6 + 2, none⟩ = some (.bool q3) := y2
        have z3 : wr.drew.cell? ⟨gl, k * 6 + 3, none⟩ = some (.bool q4) := y3
        have z4 : wr.drew.cell? ⟨gl, k * 6 + 4, none⟩ = some (.bool q5) := y4
        have z5 : wr.drew.cell? ⟨gl, k * 6 + 5, none⟩ = some (.int .i64 q6) := y5
        clear x0 x1 x2 x3 x4 x5 y0 y1 y2 y3 y4 y5 hO hW FW lww lb
        generalize wr.drew = V at OV BV FV lV z0 z1 z2 z3 z4 z5 ⊢
        have glv : gl < V.heap.size := by omega
        go_wp2_with fail
        refine (WI.out b u7 _ (Nat.le_trans PL.out (by omega)) ⟨q1, q2, q3, q4, q5, q6⟩ _ lV OV.out).mono ?_
        rintro e u3 ⟨v1, rfl, ho, hk1⟩
        have O3 : Hid (OwnL u3 b v1 (preL [] (L.take (k + 1)))) := by show OwnL _ _ _ _; rw [NX.out]; exact ho
        have B3 : Hid (Below b u2 u3) := BV.out.trans (hk1.below OV.out lV)
        have J3 : Hid (∀ j, j < k + 1 → (L.getD j Rg.zero).tt ≤ r1) := fun j hj => by
          by_cases c : j = k
          · subst c; rw [QE.out]; exact cq
          · exact hJ.out j (by omega)
        clear ho hk1
        go_wp2_with fail
        go_roundw
        case rel => exact ⟨k + 1, by omega, by go_num, O3, B3, J3⟩
        case measure => simp [intOf]; omega
      · replace cq : r1 < q2 := by omega
        go_wp2_with fail
        refine wp_region_noPanic ?_
        refine wp_region_held_drew (S := fun c => c.cell? ⟨w.heap.size, 0, none⟩ = some (.int .i64 r1) ∧ c.cell? ⟨gl, k * 6 + 1, none⟩ = some (.int .i64 q2)) (by kernel_rfl) ?_ (fun hHeld => ?_)
        · exact ⟨x0, y1⟩
        refine wpAnyH_take (i := 0) (oi := ⟨some 23, _, _, _, _, none⟩) (v := ?_) rfl (by kernel_rfl) (by kernel_rfl) (by kernel_rfl) (fun _ _ _ h => h) (Or.inl ⟨by rfl, ?_⟩) (by assumption) ?_
        rotate_left
        · intro w hSw; (try dsimp only at hSw); go_simp; (try with_reducible rfl)
        try simp only [Act.put, List.setIfInBounds_toArray, List.set_cons_zero, List.set_cons_succ]
        refine wpAnyH_take (i := 1) (oi := ⟨some 24, _, _, _, _, none⟩) (v := ?_) rfl (by kernel_rfl) (by kernel_rfl) (by kernel_rfl) (fun _ _ _ h => h) (Or.inl ⟨by rfl, ?_⟩) (by assumption) ?_
        rotate_left
        · intro w hSw; (try dsimp only at hSw); go_simp; (try with_reducible rfl)
        try simp only [Act.put, List.setIfInBounds_toArray, List.set_cons_zero, List.set_cons_succ]
        refine wpAnyH_take (i := 2) (oi := ⟨some 25, _, _, _, _, none⟩) (v := ?_) rfl (by kernel_rfl) (by kernel_rfl) (by kernel_rfl) (fun _ _ _ h => h) (Or.inl ⟨by rfl, ?_⟩) (by assumption) ?_
        rotate_left
        · intro w hSw; (try dsimp only at hSw); go_simp; (try with_reducible rfl)
        try simp only [Act.put, List.setIfInBounds_toArray, List.set_cons_zero, List.set_cons_succ]
        refine wpAnyH_take (i := 3) (oi := ⟨some 26, _, _, _, _, none⟩) (v := .bool true) rfl (by kernel_rfl) (by kernel_rfl) (by kernel_rfl) (fun _ _ _ h => h) (Or.inl ⟨by rfl, ?_⟩) (by assumption) ?_
        · intro w hSw; (try dsimp only at hSw); go_simp; (try simp); (try omega)
        try simp only [Act.put, List.setIfInBounds_toArray, List.set_cons_zero, List.set_cons_succ]
        refine wpAnyH_take (i := 4) (oi := ⟨some 27, _, _, _, _, none⟩) (v := ?_) rfl (by kernel_rfl) (by kernel_rfl) (by kernel_rfl) (fun _ _ _ h => h) (Or.inl ⟨by rfl, ?_⟩) (by assumption) ?_
        rotate_left
        · intro w hSw; (try dsimp only at hSw); go_simp; (try with_reducible rfl)
        try simp only [Act.put, List.setIfInBounds_toArray, List.set_cons_zero, List.set_cons_succ]
        refine wpAnyH_take (i := 5) (oi := ⟨some 28, _, _, _, _, some (4, true)⟩) (v := ?_) rfl (by kernel_rfl) (by kernel_rfl) (by kernel_rfl) (fun _ _ _ h => h) (Or.inl ⟨by rfl, ?_⟩) (by assumption) ?_
        rotate_left
        · intro w hSw; (try dsimp only at hSw); go_simp; (try with_reducible rfl)
        try simp only [Act.put, List.setIfInBounds_toArray, List.set_cons_zero, List.set_cons_succ]
        refine wpAnyH_take (i := 6) (oi := ⟨some 29, _, _, _, _, some (4, true)⟩) (v := ?_) rfl (by kernel_rfl) (by kernel_rfl) (by kernel_rfl) (fun _ _ _ h => h) (Or.inl ⟨by rfl, ?_⟩) (by assumption) ?_
        rotate_left
        · intro w hSw; (try dsimp only at hSw); go_simp; (try with_reducible rfl)
        try simp only [Act.put, List.setIfInBounds_toArray, List.set_cons_zero, List.set_cons_succ]
        refine wpAnyH_take (i := 7) (oi := ⟨some 30, _, _, _, _, some (4, true)⟩) (v := (.pointer (some ⟨gl, k * 6, none⟩))) rfl (by kernel_rfl) (by kernel_rfl) (by kernel_rfl) (fun _ _ _ h => h) (Or.inl ⟨by rfl, ?_⟩) (by assumption) ?_
        · intro w hSw; (try dsimp only at hSw); go_simp; (try simp [hlk]); (try omega)
        try simp only [Act.put, List.setIfInBounds_toArray, List.set_cons_zero, List.set_cons_succ]
        refine wpAnyH_take (i := 8) (oi := ⟨some 31, _, _, _, _, some (4, true)⟩) (v := ?_) rfl (by kernel_rfl) (by kernel_rfl) (by kernel_rfl) (fun _ _ _ h => h) (Or.inl ⟨by rfl, ?_⟩) (by assumption) ?_
        rotate_left
        · intro w hSw; (try dsimp only at hSw); go_simp; (try with_reducible rfl)
        try simp only [Act.put, List.setIfInBounds_toArray, List.set_cons_zero, List.set_cons_succ]
        refine wpAnyH_take (i := 9) (oi := ⟨some 32, _, _, _, _, some (4, true)⟩) (v := ?_) rfl (by kernel_rfl) (by kernel_rfl) (by kernel_rfl) (fun _ _ _ h => h) (Or.inl ⟨by rfl, ?_⟩) (by assumption) ?_
        rotate_left
        · intro w hSw; (try dsimp only at hSw); go_simp; (try with_reducible rfl)
        try simp only [Act.put, List.setIfInBounds_toArray, List.set_cons_zero, List.set_cons_succ]
        refine wpAnyH_take (i := 10) (oi := ⟨some 33, _, _, _, _, some (4, true)⟩) (v := .int .i64 q2) rfl (by kernel_rfl) (by kernel_rfl) (by kernel_rfl) (fun _ _ _ h => h) (Or.inl ⟨by rfl, ?_⟩) (by assumption) ?_
        · intro w hSw; (try dsimp only at hSw); go_simp; (try simp [hSw])
        try simp only [Act.put, List.setIfInBounds_toArray, List.set_cons_zero, List.set_cons_succ]
        refine wpAnyH_take (i := 11) (oi := ⟨some 34, _, _, _, _, some (4, true)⟩) (v := ?_) rfl (by kernel_rfl) (by kernel_rfl) (by kernel_rfl) (fun _ _ _ h => h) (Or.inl ⟨by rfl, ?_⟩) (by assumption) ?_
        rotate_left
        · intro w hSw; (try dsimp only at hSw); go_simp; (try with_reducible rfl)
        try simp only [Act.put, List.setIfInBounds_toArray, List.set_cons_zero, List.set_cons_succ]
        refine wpAnyH_take (i := 12) (oi := ⟨some 35, _, _, _, _, some (4, true)⟩) (v := ?_) rfl (by kernel_rfl) (by kernel_rfl) (by kernel_rfl) (fun _ _ _ h => h) (Or.inl ⟨by rfl, ?_⟩) (by assumption) ?_
        rotate_left
        · intro w hSw; (try dsimp only at hSw); go_simp; (try with_reducible rfl)
        try simp only [Act.put, List.setIfInBounds_toArray, List.set_cons_zero, List.set_cons_succ]
        refine wpAnyH_take (i := 13) (oi := ⟨some 36, _, _, _, _, some (4, true)⟩) (v := .int .i64 r1) rfl (by kernel_rfl) (by kernel_rfl) (by kernel_rfl) (fun _ _ _ h => h) (Or.inl ⟨by rfl, ?_⟩) (by assumption) ?_
        · intro w hSw; (try dsimp only at hSw); go_simp; (try simp [hSw])
        try simp only [Act.put, List.setIfInBounds_toArray, List.set_cons_zero, List.set_cons_succ]
        refine wpAnyH_take (i := 14) (oi := ⟨some 37, _, _, _, _, some (4, true)⟩) (v := .bool false) rfl (by kernel_rfl) (by kernel_rfl) (by kernel_rfl) (fun _ _ _ h => h) (Or.inl ⟨by rfl, ?_⟩) (by assumption) ?_
        · intro w hSw; (try dsimp only at hSw); go_simp; (try simp); (try omega)
        try simp only [Act.put, List.setIfInBounds_toArray, List.set_cons_zero, List.set_cons_succ]
        refine wpAnyH_take (i := 15) (oi := ⟨some 38, _, _, _, _, none⟩) (v := ?_) rfl (by kernel_rfl) (by kernel_rfl) (by kernel_rfl) (fun _ _ _ h => h) (Or.inl ⟨by rfl, ?_⟩) (by assumption) ?_
        rotate_left
        · intro w hSw; (try dsimp only at hSw); go_simp; (try with_reducible rfl)
        try simp only [Act.put, List.setIfInBounds_toArray, List.set_cons_zero, List.set_cons_succ]
        clear hHeld
        refine wpAnyH_done (by kernel_rfl) ?_ _
        refine NoPanic.normal ?_
        have OV : Hid (OwnL wr.drew b u7 (preL [] (L.take k))) := OwnL.below hO.out (below_drew (Below.refl _ _))
        have BV : Hid (Below b u2 wr.drew) := below_drew hW.out
        have FV : Hid (wr.drew.heap[w.heap.size]? = some (.cells #[.int .i64 r1, .int .i64 r2, .bool r3, .bool r4, .bool r5, .int .i64 r6] 46 (0, 0))) := FW.out
        have lV : b ≤ wr.drew.heap.size := lb
        clear x0 x1 x2 x3 x4 x5 y0 y1 y2 y3 y4 y5 hO hW FW lww lb
        generalize wr.drew = V at OV BV FV lV ⊢
        have AN : aheadN L r1 = k := ahead_is r1 L k hk hJ.out (Or.inr (by rw [QE.out]; exact cq))
        have EM : Hid (MM = preL (withL (preL [] (L.take k)) ⟨r1, r2, r3, r4, r5, r6⟩) (L.drop k)) := by show _ = _; rw [← HM.out]; unfold addL; simp only; rw [AN]
        have PL : Hid ((preL [] (L.take k)).length ≤ 100) := by have := pre_len [] L k hk; simp at this; exact Nat.le_trans this (by omega)
        clear AN hJ HM
        have x0 : V.cell? ⟨w.heap.size, 0, none⟩ = some (.int .i64 r1) := Go.Joins.cell_of_block FV.out 0
        have x1 : V.cell? ⟨w.heap.size, 1, none⟩ = some (.int .i64 r2) := Go.Joins.cell_of_block FV.out 1
        have x2 : V.cell? ⟨w.heap.size, 2, none⟩ = some (.bool r3) := Go.Joins.cell_of_block FV.out 2
        have x3 : V.cell? ⟨w.heap.size, 3, none⟩ = some (.bool r4) := Go.Joins.cell_of_block FV.out 3
        have x4 : V.cell? ⟨w.heap.size, 4, none⟩ = some (.bool r5) := Go.Joins.cell_of_block FV.out 4
        have x5 : V.cell? ⟨w.heap.size, 5, none⟩ = some (.int .i64 r6) := Go.Joins.cell_of_block FV.out 5
        have lv : w.heap.size < V.heap.size := blk_lt FV.out
        generalize preL [] (L.take k) = P at OV EM PL
        go_wp2_with fail
        refine (WI.out b u7 P (Nat.le_trans PL.out (by omega)) ⟨r1, r2, r3, r4, r5, r6⟩ _ lV OV.out).mono ?_
        rintro e u3 ⟨v1, rfl, ho, hk1⟩
        have O3 : Hid (OwnL u3 b v1 (withL P ⟨r1, r2, r3, r4, r5, r6⟩)) := ho
        have B3 : Hid (Below b u2 u3) := BV.out.trans (hk1.below OV.out lV)
        have LQ : Hid ((withL P ⟨r1, r2, r3, r4, r5, r6⟩).length ≤ 101) := by have := withL_len P ⟨r1, r2, r3, r4, r5, r6⟩; have := PL.out; show _ ≤ _; omega
        generalize withL P ⟨r1, r2, r3, r4, r5, r6⟩ = Q at O3 EM LQ
        clear ho hk1 x0 x1 x2 x3 x4 x5 lv OV BV FV lV PL
        go_wp2_with fail
        generalize hdd : L.length - k = dd
        go_loopw [7, 54] (fun v x W => ∃ j : Nat, j ≤ dd ∧ x = .int .i64 j ∧ Hid (OwnL W b v (preL Q ((L.drop k).take j))) ∧ Hid (Below b u2 W)) (fun _ x _ => dd - (intOf x).toNat)
        case atStart => exact ⟨0, by omega, rfl, O3, B3⟩
        case round =>
          obtain ⟨j, hj, rfl, hO4, hW4⟩ := hrel
          have dl : (L.drop k).length = dd := by rw [List.length_drop]; exact hdd
          have PL4 : Hid ((preL Q ((L.drop k).take j)).length ≤ 201) := by have h1 := pre_len Q (L.drop k) j (by omega); have h2 := LQ.out; show _ ≤ _; omega
          have lb4 : b ≤ wr.heap.size := by have := hW4.out.size; rw [HB.out] at this; exact this
          by_cases hlj : j < dd
          · have hdj : decide ((j : Int) < (dd : Int)) = true := by simp; omega
            obtain ⟨g', ge, gl2, gc⟩ := (LO.out.low hW4.out) (k + j) (by omega)
            obtain rfl : g' = gl := by cases ge; rfl
            have NX4 : Hid (preL Q ((L.drop k).take (j + 1)) = withL (preL Q ((L.drop k).take j)) (L.getD (k + j) Rg.zero)) := by
              show _ = _
              rw [pre_next Q (L.drop k) j (by omega)]
              congr 1
              simp [List.getD, List.getElem?_drop]
            generalize L.getD (k + j) Rg.zero = rr at gc NX4
            obtain ⟨s1, s2, s3, s4, s5, s6⟩ := rr
            have t0 : wr.cell? ⟨g', k * 6 + j * 6, none⟩ = some (.int .i64 s1) := by have := gc 0 _ rfl; rw [show (k + j) * 6 + 0 = k * 6 + j * 6 by omega] at this; exact this
            have t1 : wr.cell? ⟨g', k * 6 + j * 6 + 1, none⟩ = some (.int .i64 s2) := by have := gc 1 _ rfl; rw [show (k + j) * 6 + 1 = k * 6 + j * 6 + 1 by omega] at this; exact this
            have t2 : wr.cell? ⟨g', k * 6 + j * 6 + 2, none⟩ = some (.bool s3) := by have := gc 2 _ rfl; rw [show (k + j) * 6 + 2 = k * 6 + j * 6 + 2 by omega] at this; exact this
            have t3 : wr.cell? ⟨g', k * 6 + j * 6 + 3, none⟩ = some (.bool s4) := by have := gc 3 _ rfl; rw [show (k + j) * 6 + 3 = k * 6 + j * 6 + 3 by omega] at this; exact this
            have t4 : wr.cell? ⟨g', k * 6 + j * 6 + 4, none⟩ = some (.bool s5) := by have := gc 4 _ rfl; rw [show (k + j) * 6 + 4 = k * 6 + j * 6 + 4 by omega] at this; exact this
            have t5 : wr.cell? ⟨g', k * 6 + j * 6 + 5, none⟩ = some (.int .i64 s6) := by have := gc 5 _ rfl; rw [show (k + j) * 6 + 5 = k * 6 + j * 6 + 5 by omega] at this; exact this
            clear gc ge
            have glw4 : g' < wr.heap.size := by omega
            have O5 : Hid (OwnL (wr.alloc (.cells #[.int .i64 s1, .int .i64 s2, .bool s3, .bool s4, .bool s5, .int .i64 s6] 46)) b u7 (preL Q ((L.drop k).take j))) := OwnL.below hO4.out (Go.Joins.below_alloc1 _ _)
            have B5 : Hid (Below b u2 (wr.alloc (.cells #[.int .i64 s1, .int .i64 s2, .bool s3, .bool s4, .bool s5, .int .i64 s6] 46))) := hW4.out.trans (Go.Joins.below_le (Go.Joins.below_alloc1 _ _) lb4)
            have lb5 : b ≤ (wr.alloc (.cells #[.int .i64 s1, .int .i64 s2, .bool s3, .bool s4, .bool s5, .int .i64 s6] 46)).heap.size := by rw [World.size_alloc]; omega
            go_wp2_with fail
            refine (WI.out b u7 _ (Nat.le_trans PL4.out (by omega)) ⟨s1, s2, s3, s4, s5, s6⟩ _ lb5 O5.out).mono ?_
            rintro e u6 ⟨v2, rfl, ho, hk2⟩
            have O6 : Hid (OwnL u6 b v2 (preL Q ((L.drop k).take (j + 1)))) := by show OwnL _ _ _ _; rw [NX4.out]; exact ho
            have B6 : Hid (Below b u2 u6) := B5.out.trans (hk2.below O5.out lb5)
            clear ho hk2
            go_wp2_with fail
            go_roundw
            case rel => exact ⟨j + 1, by omega, by go_num, O6, B6⟩
            case measure => simp [intOf]; omega
          · obtain rfl : j = dd := by omega
            have EF : Hid (MM = preL Q ((L.drop k).take j)) := by show _ = _; rw [EM.out, ← dl, List.take_length]
            clear EM
            generalize preL Q ((L.drop k).take j) = QQ at hO4 EF PL4
            obtain ⟨q, d, ev, hq⟩ := own_read hO4.out
            clear hq
            obtain ⟨n, hn⟩ : ∃ n, QQ.length = n := ⟨_, rfl⟩
            have HN : Hid (QQ.length = n) := hn
            rw [hn] at ev PL4
            clear hn
            subst ev
            by_cases few : n ≤ 64
            · go_wp2_with fail
              refine (FY.out _ _ _ few _).mono ?_
              rintro e u9 ⟨rfl, hb9⟩
              have B9 : Hid (Below w.heap.size w u9) := below_then (B2.out.trans (Go.Joins.below_le hW4.out (by omega))) hb9
              have R9 : Hid (Ans u9 w.heap.size (.slice q n d) 0 0 MM) := Or.inr ⟨rfl, Or.inl ⟨by rw [EF.out, HN.out]; exact few, rfl, by rw [EF.out]; exact Go.Joins.ownsRow_le (OwnL.below hO4.out hb9) (by omega)⟩⟩
              clear hb9
              go_wp2_with fail
              go_returns
              exact ⟨.slice q n d, 0, rfl, R9.out, B9.out⟩
            · go_wp2_with fail
              refine (FN.out _ _ _ (by omega) (Nat.le_trans PL4.out (by omega)) _).mono ?_
              rintro e u9 ⟨rfl, hb9⟩
              have B9 : Hid (Below w.heap.size w u9) := below_then (B2.out.trans (Go.Joins.below_le hW4.out (by omega))) hb9
              have R9 : Hid (Ans u9 w.heap.size (.slice none 0 0) 4 0 MM) := Or.inr ⟨rfl, Or.inr ⟨by rw [EF.out, HN.out]; omega, rfl, rfl⟩⟩
              clear hb9
              go_wp2_with fail
              go_returns
              exact ⟨.slice none 0 0, 4, rfl, R9.out, B9.out⟩
    · have hkn : k = L.length := by omega
      go_wp2_with fail
      refine wp_region_noPanic ?_
      refine wp_region_held_drew (S := fun c => c.cell? ⟨w.heap.size, 0, none⟩ = some (.int .i64 r1)) (by kernel_rfl) ?_ (fun hHeld => ?_)
      · exact x0
      refine wpAnyH_take (i := 0) (oi := ⟨some 23, _, _, _, _, none⟩) (v := ?_) rfl (by kernel_rfl) (by kernel_rfl) (by kernel_rfl) (fun _ _ _ h => h) (Or.inl ⟨by rfl, ?_⟩) (by assumption) ?_
      rotate_left
      · intro w hSw; (try dsimp only at hSw); go_simp; (try with_reducible rfl)
      try simp only [Act.put, List.setIfInBounds_toArray, List.set_cons_zero, List.set_cons_succ]
      refine wpAnyH_take (i := 1) (oi := ⟨some 24, _, _, _, _, none⟩) (v := ?_) rfl (by kernel_rfl) (by kernel_rfl) (by kernel_rfl) (fun _ _ _ h => h) (Or.inl ⟨by rfl, ?_⟩) (by assumption) ?_
      rotate_left
      · intro w hSw; (try dsimp only at hSw); go_simp; (try with_reducible rfl)
      try simp only [Act.put, List.setIfInBounds_toArray, List.set_cons_zero, List.set_cons_succ]
      refine wpAnyH_take (i := 2) (oi := ⟨some 25, _, _, _, _, none⟩) (v := ?_) rfl (by kernel_rfl) (by kernel_rfl) (by kernel_rfl) (fun _ _ _ h => h) (Or.inl ⟨by rfl, ?_⟩) (by assumption) ?_
      rotate_left
      · intro w hSw; (try dsimp only at hSw); go_simp; (try with_reducible rfl)
      try simp only [Act.put, List.setIfInBounds_toArray, List.set_cons_zero, List.set_cons_succ]
      refine wpAnyH_take (i := 3) (oi := ⟨some 26, _, _, _, _, none⟩) (v := .bool false) rfl (by kernel_rfl) (by kernel_rfl) (by kernel_rfl) (fun _ _ _ h => h) (Or.inl ⟨by rfl, ?_⟩) (by assumption) ?_
      · intro w hSw; (try dsimp only at hSw); go_simp; (try simp); (try omega)
      try simp only [Act.put, List.setIfInBounds_toArray, List.set_cons_zero, List.set_cons_succ]
      refine wpAnyH_take (i := 4) (oi := ⟨some 27, _, _, _, _, none⟩) (v := ?_) rfl (by kernel_rfl) (by kernel_rfl) (by kernel_rfl) (fun _ _ _ h => h) (Or.inl ⟨by rfl, ?_⟩) (by assumption) ?_
      rotate_left
      · intro w hSw; (try dsimp only at hSw); go_simp; (try with_reducible rfl)
      try simp only [Act.put, List.setIfInBounds_toArray, List.set_cons_zero, List.set_cons_succ]
      refine wpAnyH_take (i := 5) (oi := ⟨some 28, _, _, _, _, some (4, true)⟩) (v := undef) rfl (by kernel_rfl) (by kernel_rfl) (by kernel_rfl) (fun _ _ _ h => h) (Or.inr ⟨by rfl, rfl⟩) (by assumption) ?_
      try simp only [Act.put, List.setIfInBounds_toArray, List.set_cons_zero, List.set_cons_succ]
      refine wpAnyH_take (i := 6) (oi := ⟨some 29, _, _, _, _, some (4, true)⟩) (v := undef) rfl (by kernel_rfl) (by kernel_rfl) (by kernel_rfl) (fun _ _ _ h => h) (Or.inr ⟨by rfl, rfl⟩) (by assumption) ?_
      try simp only [Act.put, List.setIfInBounds_toArray, List.set_cons_zero, List.set_cons_succ]
      refine wpAnyH_take (i := 7) (oi := ⟨some 30, _, _, _, _, some (4, true)⟩) (v := undef) rfl (by kernel_rfl) (by kernel_rfl) (by kernel_rfl) (fun _ _ _ h => h) (Or.inr ⟨by rfl, rfl⟩) (by assumption) ?_
      try simp only [Act.put, List.setIfInBounds_toArray, List.set_cons_zero, List.set_cons_succ]
      refine wpAnyH_take (i := 8) (oi := ⟨some 31, _, _, _, _, some (4, true)⟩) (v := undef) rfl (by kernel_rfl) (by kernel_rfl) (by kernel_rfl) (fun _ _ _ h => h) (Or.inr ⟨by rfl, rfl⟩) (by assumption) ?_
      try simp only [Act.put, List.setIfInBounds_toArray, List.set_cons_zero, List.set_cons_succ]
      refine wpAnyH_take (i := 9) (oi := ⟨some 32, _, _, _, _, some (4, true)⟩) (v := undef) rfl (by kernel_rfl) (by kernel_rfl) (by kernel_rfl) (fun _ _ _ h => h) (Or.inr ⟨by rfl, rfl⟩) (by assumption) ?_
      try simp only [Act.put, List.setIfInBounds_toArray, List.set_cons_zero, List.set_cons_succ]
      refine wpAnyH_take (i := 10) (oi := ⟨some 33, _, _, _, _, some (4, true)⟩) (v := undef) rfl (by kernel_rfl) (by kernel_rfl) (by kernel_rfl) (fun _ _ _ h => h) (Or.inr ⟨by rfl, rfl⟩) (by assumption) ?_
      try simp only [Act.put, List.setIfInBounds_toArray, List.set_cons_zero, List.set_cons_succ]
      refine wpAnyH_take (i := 11) (oi := ⟨some 34, _, _, _, _, some (4, true)⟩) (v := undef) rfl (by kernel_rfl) (by kernel_rfl) (by kernel_rfl) (fun _ _ _ h => h) (Or.inr ⟨by rfl, rfl⟩) (by assumption) ?_
      try simp only [Act.put, List.setIfInBounds_toArray, List.set_cons_zero, List.set_cons_succ]
      refine wpAnyH_take (i := 12) (oi := ⟨some 35, _, _, _, _, some (4, true)⟩) (v := undef) rfl (by kernel_rfl) (by kernel_rfl) (by kernel_rfl) (fun _ _ _ h => h) (Or.inr ⟨by rfl, rfl⟩) (by assumption) ?_
      try simp only [Act.put, List.setIfInBounds_toArray, List.set_cons_zero, List.set_cons_succ]
      refine wpAnyH_take (i := 13) (oi := ⟨some 36, _, _, _, _, some (4, true)⟩) (v := undef) rfl (by kernel_rfl) (by kernel_rfl) (by kernel_rfl) (fun _ _ _ h => h) (Or.inr ⟨by rfl, rfl⟩) (by assumption) ?_
      try simp only [Act.put, List.setIfInBounds_toArray, List.set_cons_zero, List.set_cons_succ]
      refine wpAnyH_take (i := 14) (oi := ⟨some 37, _, _, _, _, some (4, true)⟩) (v := undef) rfl (by kernel_rfl) (by kernel_rfl) (by kernel_rfl) (fun _ _ _ h => h) (Or.inr ⟨by rfl, rfl⟩) (by assumption) ?_
      try simp only [Act.put, List.setIfInBounds_toArray, List.set_cons_zero, List.set_cons_succ]
      refine wpAnyH_take (i := 15) (oi := ⟨some 38, _, _, _, _, none⟩) (v := ?_) rfl (by kernel_rfl) (by kernel_rfl) (by kernel_rfl) (fun _ _ _ h => h) (Or.inl ⟨by rfl, ?_⟩) (by assumption) ?_
      rotate_left
      · intro w hSw; (try dsimp only at hSw); go_simp; (try with_reducible rfl)
      try simp only [Act.put, List.setIfInBounds_toArray, List.set_cons_zero, List.set_cons_succ]
      clear hHeld
      refine wpAnyH_done (by kernel_rfl) ?_ _
      refine NoPanic.normal ?_
      have OV : Hid (OwnL wr.drew b u7 (preL [] (L.take k))) := OwnL.below hO.out (below_drew (Below.refl _ _))
      have BV : Hid (Below b u2 wr.drew) := below_drew hW.out
      have FV : Hid (wr.drew.heap[w.heap.size]? = some (.cells #[.int .i64 r1, .int .i64 r2, .bool r3, .bool r4, .bool r5, .int .i64 r6] 46 (0, 0))) := FW.out
      have lV : b ≤ wr.drew.heap.size := lb
      clear x0 x1 x2 x3 x4 x5  hO hW FW lww lb
      generalize wr.drew = V at OV BV FV lV ⊢
      have AN : aheadN L r1 = k := ahead_is r1 L k hk hJ.out (Or.inl hkn)
      have EM : Hid (MM = preL (withL (preL [] (L.take k)) ⟨r1, r2, r3, r4, r5, r6⟩) (L.drop k)) := by show _ = _; rw [← HM.out]; unfold addL; simp only; rw [AN]
      have PL : Hid ((preL [] (L.take k)).length ≤ 100) := by have := pre_len [] L k hk; simp at this; exact Nat.le_trans this (by omega)
      clear AN hJ HM
      have x0 : V.cell? ⟨w.heap.size, 0, none⟩ = some (.int .i64 r1) := Go.Joins.cell_of_block FV.out 0
      have x1 : V.cell? ⟨w.heap.size, 1, none⟩ = some (.int .i64 r2) := Go.Joins.cell_of_block FV.out 1
      have x2 : V.cell? ⟨w.heap.size, 2, none⟩ = some (.bool r3) := Go.Joins.cell_of_block FV.out 2
      have x3 : V.cell? ⟨w.heap.size, 3, none⟩ = some (.bool r4) := Go.Joins.cell_of_block FV.out 3
      have x4 : V.cell? ⟨w.heap.size, 4, none⟩ = some (.bool r5) := Go.Joins.cell_of_block FV.out 4
      have x5 : V.cell? ⟨w.heap.size, 5, none⟩ = some (.int .i64 r6) := Go.Joins.cell_of_block FV.out 5
      have lv : w.heap.size < V.heap.size := blk_lt FV.out
      generalize preL [] (L.take k) = P at OV EM PL
      go_wp2_with fail
      refine (WI.out b u7 P (Nat.le_trans PL.out (by omega)) ⟨r1, r2, r3, r4, r5, r6⟩ _ lV OV.out).mono ?_
      rintro e u3 ⟨v1, rfl, ho, hk1⟩
      have O3 : Hid (OwnL u3 b v1 (withL P ⟨r1, r2, r3, r4, r5, r6⟩)) := ho
      have B3 : Hid (Below b u2 u3) := BV.out.trans (hk1.below OV.out lV)
      have LQ : Hid ((withL P ⟨r1, r2, r3, r4, r5, r6⟩).length ≤ 101) := by have := withL_len P ⟨r1, r2, r3, r4, r5, r6⟩; have := PL.out; show _ ≤ _; omega
      generalize withL P ⟨r1, r2, r3, r4, r5, r6⟩ = Q at O3 EM LQ
      clear ho hk1 x0 x1 x2 x3 x4 x5 lv OV BV FV lV PL
      have EF : Hid (MM = Q) := by show _ = _; rw [EM.out, hkn, List.drop_length]; rfl
      clear EM
      go_wp2_with fail
      all_goals
        refine wp_loop_rounds 1 ?_
        rw [rounds_succ]
        obtain ⟨q, d, ev, hq⟩ := own_read O3.out
        clear hq
        obtain ⟨n, hn⟩ : ∃ n, Q.length = n := ⟨_, rfl⟩
        have HN : Hid (Q.length = n) := hn
        rw [hn] at ev LQ
        clear hn
        subst ev
        by_cases few : n ≤ 64
        · go_wp2_with fail
          refine (FY.out _ _ _ few _).mono ?_
          rintro e u9 ⟨rfl, hb9⟩
          have B9 : Hid (Below w.heap.size w u9) := below_then (B2.out.trans (Go.Joins.below_le B3.out (by omega))) hb9
          have R9 : Hid (Ans u9 w.heap.size (.slice q n d) 0 0 MM) := Or.inr ⟨rfl, Or.inl ⟨by rw [EF.out, HN.out]; exact few, rfl, by rw [EF.out]; exact Go.Joins.ownsRow_le (OwnL.below O3.out hb9) (by omega)⟩⟩
          clear hb9
          go_wp2_with fail
          go_returns
          exact ⟨.slice q n d, 0, rfl, R9.out, B9.out⟩
        · go_wp2_with fail
          refine (FN.out _ _ _ (by omega) (Nat.le_trans LQ.out (by omega)) _).mono ?_
          rintro e u9 ⟨rfl, hb9⟩
          have B9 : Hid (Below w.heap.size w u9) := below_then (B2.out.trans (Go.Joins.below_le B3.out (by omega))) hb9
          have R9 : Hid (Ans u9 w.heap.size (.slice none 0 0) 4 0 MM) := Or.inr ⟨rfl, Or.inr ⟨by rw [EF.out, HN.out]; omega, rfl, rfl⟩⟩
          clear hb9
          go_wp2_with fail
          go_returns
          exact ⟨.slice none 0 0, 4, rfl, R9.out, B9.out⟩
end Go.Proofs.YtkiclbnbnjbcaabDoor.Re
namespace Go.Proofs.YtkiclbnbnjbcaabDoor.Re
open Go.ChangeShapes Go.WideShapes Go.ChangeAt Go.RowKit Go.Maps
set_option linter.unusedSimpArgs false
set_option linter.unusedVariables false
set_option maxRecDepth 8000

theorem own_read2 {w : World} {base : Nat} {v : Value} {L : List Rg} (h : OwnL w base v L) : ∃ p c, v = .slice p L.length c ∧ L.length ≤ c ∧ IsL w 0 p L := by
  obtain ⟨p, c, e, hi⟩ := own_read h
  refine ⟨p, c, e, ?_, fun i q => by obtain ⟨g, a, b, d⟩ := hi i q; exact ⟨g, a, Nat.zero_le _, d⟩⟩
  rcases h.2 with ⟨h1, h2⟩ | ⟨g, cap, cur, e1, e2, e3, e4, _⟩
  · omega
  · rw [e] at e1; cases e1; exact e4
def errA (E : Int) (M : List Rg) : Int := if E = 0 then (if M.length ≤ 64 then 0 else 4) else E
def outL (E : Int) (M : List Rg) : List Rg := if errA E M = 0 then M else []
theorem nil_is (w : World) : IsL w 0 none [] := fun i hi => absurd hi (Nat.not_lt_zero _)
theorem ans_read {w' : World} {base : Nat} {v : Value} {er E : Int} {M : List Rg} (h : Ans w' base v er E M) : er = errA E M ∧ ∃ p c, v = .slice p (outL E M).length c ∧ (outL E M).length ≤ c ∧ IsL w' 0 p (outL E M) := by
  unfold outL errA
  rcases h with ⟨h1, h2, h3⟩ | ⟨h1, ⟨h2, h3, h4⟩ | ⟨h2, h3, h4⟩⟩
  · rw [if_neg h1, if_neg h1]
    exact ⟨h2, none, 0, h3, Nat.le_refl _, nil_is _⟩
  · rw [if_pos h1, if_pos h2, if_pos rfl]
    obtain ⟨p, c, e1, e2, e3⟩ := own_read2 h4
    exact ⟨h3, p, c, e1, e2, e3⟩
  · rw [if_pos h1, if_neg (by omega), if_neg (by omega)]
    exact ⟨h3, none, 0, h4, Nat.le_refl _, nil_is _⟩
theorem cut_out (p : Option Addr) (c : Nat) (L : List Rg) (hL : L.length ≤ 100) (qf qt : Int) (E : Int) (M : List Rg) (hE : errA (checkN L qf qt) (chg (fun _ => Rg.zero) qf qt L) = E) (hM : outL (checkN L qf qt) (chg (fun _ => Rg.zero) qf qt L) = M) (w : World) (h : IsL w 0 p L) :
    Calls Tryd.prog 9 #[.slice p L.length c, rgV qf qt] w fun e w' => ∃ p' c', e = .returned (.tuple #[.slice p' M.length c', .int .i64 E]) ∧ M.length ≤ c' ∧ IsL w' 0 p' M ∧ Below w.heap.size w w' :=
  (cut_any 0 p c L hL qf qt w h).mono fun e w' ⟨v, er, h1, h2, h3⟩ => by
    obtain ⟨k1, p', c', k2, k3, k4⟩ := ans_read h2
    rw [hE] at k1; rw [hM] at k2 k3 k4
    exact ⟨p', c', by rw [h1, k1, k2], k3, k4, h3⟩
theorem prot_out (p : Option Addr) (c : Nat) (L : List Rg) (hL : L.length ≤ 100) (qf qt : Int) (pa pb pc : Bool) (E : Int) (M : List Rg) (hE : errA (protN L qf qt) (chg (fun r => r.may pa pb pc) qf qt L) = E) (hM : outL (protN L qf qt) (chg (fun r => r.may pa pb pc) qf qt L) = M) (w : World) (h : IsL w 0 p L) :
    Calls Tryd.prog 10 #[.slice p L.length c, rgV qf qt, pmV pa pb pc] w fun e w' => ∃ p' c', e = .returned (.tuple #[.slice p' M.length c', .int .i64 E]) ∧ M.length ≤ c' ∧ IsL w' 0 p' M ∧ Below w.heap.size w w' :=
  (prot_any 0 p c L hL qf qt pa pb pc w h).mono fun e w' ⟨v, er, h1, h2, h3⟩ => by
    obtain ⟨k1, p', c', k2, k3, k4⟩ := ans_read h2
    rw [hE] at k1; rw [hM] at k2 k3 k4
    exact ⟨p', c', by rw [h1, k1, k2], k3, k4, h3⟩
theorem add_out (p : Option Addr) (c : Nat) (L : List Rg) (hL : L.length ≤ 100) (hc : L.length ≤ c) (r : Rg) (E : Int) (M : List Rg) (hE : errA (addN L r) (addL L r) = E) (hM : outL (addN L r) (addL L r) = M) (w : World) (h : IsL w 0 p L) :
    Calls Tryd.prog 8 #[.slice p L.length c, r.val] w fun e w' => ∃ p' c', e = .returned (.tuple #[.slice p' M.length c', .int .i64 E]) ∧ M.length ≤ c' ∧ IsL w' 0 p' M ∧ Below w.heap.size w w' :=
  (add_any 0 p c L hL hc r w h).mono fun e w' ⟨v, er, h1, h2, h3⟩ => by
    obtain ⟨k1, p', c', k2, k3, k4⟩ := ans_read h2
    rw [hE] at k1; rw [hM] at k2 k3 k4
    exact ⟨p', c', by rw [h1, k1, k2], k3, k4, h3⟩
def aw1 : List Rg := [⟨0, 4, true, false, false, 0⟩]
def aw2 : List Rg := [⟨0, 6, true, false, false, 0⟩]
def aw3 : List Rg := [⟨0, 1, true, false, false, 0⟩, ⟨2, 6, true, false, false, 0⟩]
/-- a change of the laws -/
structure Ac where
  how : Int
  fr : Int
  til : Int
  w : Bool
  u : Bool
  x : Bool
  kd : Int
abbrev Ac.val (a : Ac) : Value := .agg #[.int .i64 a.how, .int .i64 a.fr, .int .i64 a.til, .bool a.w, .bool a.u, .bool a.x, .int .i64 a.kd]
def Ac.rg (a : Ac) : Rg := ⟨a.fr, a.til, a.w, a.u, a.x, a.kd⟩
def actE (L : List Rg) (a : Ac) : Int := if a.how = 1 then errA (addN L a.rg) (addL L a.rg) else if a.how = 2 then errA (checkN L a.fr a.til) (chg (fun _ => Rg.zero) a.fr a.til L) else if a.how = 3 then errA (protN L a.fr a.til) (chg (fun r => r.may a.w a.u a.x) a.fr a.til L) else 1
def actM (L : List Rg) (a : Ac) : List Rg := if a.how = 1 then outL (addN L a.rg) (addL L a.rg) else if a.how = 2 then outL (checkN L a.fr a.til) (chg (fun _ => Rg.zero) a.fr a.til L) else if a.how = 3 then outL (protN L a.fr a.til) (chg (fun r => r.may a.w a.u a.x) a.fr a.til L) else L
def actL (L : List Rg) (a : Ac) : List Rg := if actE L a = 0 then actM L a else L
end Go.Proofs.YtkiclbnbnjbcaabDoor.Re
namespace Go.Proofs.YtkiclbnbnjbcaabDoor.Re
open Go.ChangeShapes Go.WideShapes Go.ChangeAt Go.RowKit Go.Maps
set_option linter.unusedSimpArgs false
set_option linter.unusedVariables false
set_option maxRecDepth 8000

theorem args_stay {H : Type} {enc : TypeId × Value → H} {P : Program} {W W' : World} (hl : laidOutB P = true) (hb : Below W.heap.size W W') :
    ∀ {ts : List TypeId} {vs : List Value} {ds : List (DataW H)} {ps : List MemPlace}, (ts.all fun t => P.readableRec t && decide (t < P.types.size)) = true →
      DataW.TrodAll enc P W 0 (fun _ => true) true ts vs ds ps → (∀ x ∈ ps, x.block < W.heap.size) → DataW.TrodAll enc P W' 0 (fun b => decide (b < W.heap.size)) true ts vs ds ps
  | [], vs, ds, ps, _, h, _ => by
    obtain ⟨rfl, rfl, rfl⟩ := trodAll_nil h
    exact trodAll_mk0
  | t :: ts, vs, ds, ps, ha, h, hp => by
    obtain ⟨v, vs0, d, ds0, p, q, rfl, rfl, rfl, h0, r0⟩ := trodAll_cons h
    simp only [List.all_cons, Bool.and_eq_true, decide_eq_true_eq] at ha
    exact trodAll_cons_mk (Below.trod hl ha.1.1 ha.1.2 h0 hb (fun x hx => hp x (List.mem_append_left _ hx)))
      (args_stay hl hb (by simpa using ha.2) r0 (fun x hx => hp x (List.mem_append_right _ hx)))
theorem cell_of {P : Program} {t n : Nat} {cs : List Value} {c v : Value} (hc : P.cellsOf t = 1) (h : (cs.drop n).take (P.cellsOf t) = [v]) (hn : cs[n]? = some c) : c = v := by
  rw [hc] at h
  have e : ((cs.drop n).take 1)[0]? = some c := by rw [List.getElem?_take, if_pos (by omega), List.getElem?_drop]; simpa using hn
  rw [h] at e
  simpa using e.symm
theorem cell_of2 {P : Program} {t u n k : Nat} {cs : List Value} {c v : Value} (hu : P.cellsOf u = 3) (hk : k < 3) (hc : P.cellsOf t = 1) (h : (((cs.drop n).take (P.cellsOf u)).drop k).take (P.cellsOf t) = [v]) (hn : cs[n + k]? = some c) : c = v := by
  rw [hc, hu] at h
  have e : ((((cs.drop n).take 3).drop k).take 1)[0]? = some c := by rw [List.getElem?_take, if_pos (by omega), List.getElem?_drop, List.getElem?_take, if_pos (by omega), List.getElem?_drop]; simpa using hn
  rw [h] at e
  simpa using e.symm
theorem cellsB : Tryd.prog.cellsOf 4 = 1 := by kernel_rfl
theorem cellsI : Tryd.prog.cellsOf 3 = 1 := by kernel_rfl
theorem cellsP : Tryd.prog.cellsOf 38 = 3 := by kernel_rfl
theorem cellsA : Tryd.prog.cellsOf 40 = 7 := by kernel_rfl
theorem lt_of_cell {w : World} {a : Addr} {v : Value} (h : w.cell? a = some v) : a.block < w.heap.size := by
  unfold World.cell? at h
  by_cases c : a.block < w.heap.size
  · exact c
  · rw [Array.getElem?_eq_none (by omega)] at h
    simp at h
def Ac.enc (a : Ac) : List Value := [.int .i64 a.how, .int .i64 a.fr, .int .i64 a.til, .bool a.w, .bool a.u, .bool a.x, .int .i64 a.kd]
def Ac.zero : Ac := ⟨0, 0, 0, false, false, false, 0⟩
theorem list7 {α : Type} {cs : List α} (h : cs.length = 7) : ∃ c0 c1 c2 c3 c4 c5 c6, cs = [c0, c1, c2, c3, c4, c5, c6] := by
  match cs, h with
  | [c0, c1, c2, c3, c4, c5, c6], _ => exact ⟨c0, c1, c2, c3, c4, c5, c6, rfl⟩
theorem act_cells {H : Type} {enc : TypeId × Value → H} {W : World} {base : Nat} {sp : Nat → Bool} {held : Bool} {fuel : Nat} {cs : List Value} {x : DataW H × List MemPlace}
    (hf : DataW.trod enc Tryd.prog W base sp held fuel 40 cs = some x) (hlen7 : cs.length = 7) : ∃ a : Ac, cs = a.enc ∧ (-9223372036854775808 ≤ a.fr ∧ a.fr ≤ 9223372036854775807) ∧ (-9223372036854775808 ≤ a.til ∧ a.til ≤ 9223372036854775807) := by
  obtain ⟨c0, c1, c2, c3, c4, c5, c6, rfl⟩ := list7 hlen7
  obtain ⟨xs, n, _, _, hl, hlen, hf⟩ := DataW.trod_struct Tryd.underlying40 hf
  have hg : ∀ i, i < 5 → ∃ y, xs[i]? = some y := fun i hi => ⟨_, List.getElem?_eq_getElem (by rw [hlen]; exact hi)⟩
  obtain ⟨y0, k0⟩ := hg 0 (by omega)
  obtain ⟨y1, k1⟩ := hg 1 (by omega)
  obtain ⟨y2, k2⟩ := hg 2 (by omega)
  obtain ⟨y3, k3⟩ := hg 3 (by omega)
  obtain ⟨y4, k4⟩ := hg 4 (by omega)
  obtain ⟨a0, e0, _, w0⟩ := DataW.trod_int Tryd.underlying3 ((hf 0 _ rfl).trans k0)
  obtain ⟨a1, e1, _, w1⟩ := DataW.trod_int Tryd.underlying3 ((hf 1 _ rfl).trans k1)
  obtain ⟨a2, e2, _, w2⟩ := DataW.trod_int Tryd.underlying3 ((hf 2 _ rfl).trans k2)
  obtain ⟨zs, m, _, _, jl, jlen, jf⟩ := DataW.trod_struct Tryd.underlying38 ((hf 3 _ rfl).trans k3)
  have jg : ∀ i, i < 3 → ∃ y, zs[i]? = some y := fun i hi => ⟨_, List.getElem?_eq_getElem (by rw [jlen]; exact hi)⟩
  obtain ⟨z0, m0⟩ := jg 0 (by omega)
  obtain ⟨z1, m1⟩ := jg 1 (by omega)
  obtain ⟨z2, m2⟩ := jg 2 (by omega)
  obtain ⟨a3, e3, _⟩ := DataW.trod_bool Tryd.underlying4 ((jf 0 _ rfl).trans m0)
  obtain ⟨a4, e4, _⟩ := DataW.trod_bool Tryd.underlying4 ((jf 1 _ rfl).trans m1)
  obtain ⟨a5, e5, _⟩ := DataW.trod_bool Tryd.underlying4 ((jf 2 _ rfl).trans m2)
  obtain ⟨a6, e6, _, w6⟩ := DataW.trod_int Tryd.underlying3 ((hf 4 _ rfl).trans k4)
  obtain rfl := cell_of cellsI e0 (c := c0) rfl
  obtain rfl := cell_of cellsI e1 (c := c1) rfl
  obtain rfl := cell_of cellsI e2 (c := c2) rfl
  obtain rfl := cell_of2 (n := 3) (k := 0) cellsP (by omega) cellsB e3 (c := c3) rfl
  obtain rfl := cell_of2 (n := 3) (k := 1) cellsP (by omega) cellsB e4 (c := c4) rfl
  obtain rfl := cell_of2 (n := 3) (k := 2) cellsP (by omega) cellsB e5 (c := c5) rfl
  obtain rfl := cell_of cellsI e6 (c := c6) rfl
  have b1 : -9223372036854775808 ≤ a1 ∧ a1 ≤ 9223372036854775807 := by simp [Lit.wf, IntKind.min, IntKind.max, IntKind.signed, IntKind.bits] at w1; omega
  have b2 : -9223372036854775808 ≤ a2 ∧ a2 ≤ 9223372036854775807 := by simp [Lit.wf, IntKind.min, IntKind.max, IntKind.signed, IntKind.bits] at w2; omega
  exact ⟨⟨a0, a1, a2, a3, a4, a5, a6⟩, rfl, b1, b2⟩
/-- changes that come in -/
def IsActs (w : World) (p : Option Addr) (n : Nat) (A : Nat → Ac) : Prop := ∀ i, i < n → ∃ b o, p = some ⟨b, o, none⟩ ∧ b < w.heap.size ∧ (∀ j x, (A i).enc[j]? = some x → w.cell? ⟨b, o + i * 7 + j, none⟩ = some x) ∧ (-9223372036854775808 ≤ (A i).fr ∧ (A i).fr ≤ 9223372036854775807) ∧ (-9223372036854775808 ≤ (A i).til ∧ (A i).til ≤ 9223372036854775807)
theorem open_acts {H : Type} {enc : TypeId × Value → H} {W : World} {base : Nat} {sp : Nat → Bool} {held : Bool} {v : Value} {x : DataW H} {ps : List MemPlace} {r : Reach} {b0 : Nat}
    (hv : Value.okWide Tryd.prog W r b0 22 v) (h : DataW.Trod enc Tryd.prog W base sp held 22 v x ps) :
    ∃ (p : Option Addr) (n c : Nat) (A : Nat → Ac), v = .slice p n c ∧ n ≤ maxLen ∧ IsActs W p n A := by
  obtain ⟨a', l', c', rfl⟩ := okWide_slice Tryd.underlying22 hv
  obtain ⟨fuel, hf⟩ := h
  rcases Go.Deep.open_slice Tryd.underlying22 hf with ⟨e, _⟩ | ⟨a, len, cap, m, k, D, Pl, e, hb, hl, hm, hmm, hx, hel⟩
  · have e' : Value.slice a' l' c' = .slice none 0 0 := (List.cons.inj (show [Value.slice a' l' c'] = [.slice none 0 0] from e)).1
    exact ⟨none, 0, 0, fun _ => Ac.zero, e', by omega, fun i hi => absurd hi (Nat.not_lt_zero _)⟩
  · have e' : Value.slice a' l' c' = .slice (some a) len cap := (List.cons.inj (show [Value.slice a' l' c'] = [.slice (some a) len cap] from e)).1
    have hlm : len ≤ m := by rw [hmm]; split <;> omega
    rw [e']
    have each : ∀ i, i < len → ∃ q : Ac, a.spot = none ∧ a.block < W.heap.size ∧ (∀ j x, q.enc[j]? = some x → W.cell? ⟨a.block, a.off + i * 7 + j, none⟩ = some x) ∧ (-9223372036854775808 ≤ q.fr ∧ q.fr ≤ 9223372036854775807) ∧ (-9223372036854775808 ≤ q.til ∧ q.til ≤ 9223372036854775807) := fun i hi => by
      obtain ⟨cs', h1, h2⟩ := hel i (by omega)
      obtain ⟨c2', h3, _⟩ := hel 0 (by omega)
      rw [cellsA] at h1 h3
      obtain ⟨_, hlen, hcell⟩ := World.cells?_some h1
      obtain ⟨_, hlen3, hcell3⟩ := World.cells?_some h3
      have hspot : a.spot = none := by
        have := hcell3 0 (by omega)
        simpa [Addr.add] using World.cell?_spot (this.trans (List.getElem?_eq_getElem (by omega)))
      obtain ⟨q, hq, b1, b2⟩ := act_cells h2 (by omega)
      have ad : ∀ j, (a.add (i * 7)).add j = ⟨a.block, a.off + i * 7 + j, none⟩ := fun j => by
        rw [Go.Deep.add_add]
        unfold Addr.add
        by_cases c : i * 7 + j = 0
        · rw [if_pos c]
          have : i * 7 = 0 ∧ j = 0 := by omega
          obtain ⟨bb, oo, ss⟩ := a
          simp only at hspot
          subst hspot
          simp [this.1, this.2]
        · rw [if_neg c]; simp; try omega
      have all : ∀ j x, q.enc[j]? = some x → W.cell? ⟨a.block, a.off + i * 7 + j, none⟩ = some x := fun j z hz => by
        have hj : j < 7 := (List.getElem?_eq_some_iff.1 hz).1
        have hc := hcell j hj
        rw [ad, hq] at hc
        rw [hc]; exact hz
      exact ⟨q, hspot, (by have := lt_of_cell (all 0 _ rfl); exact this), all, b1, b2⟩
    haveI : Inhabited Ac := ⟨Ac.zero⟩
    obtain ⟨q, hq⟩ := Go.Deep.choose_lt each
    refine ⟨some a, len, cap, q, rfl, by omega, fun i hi => ?_⟩
    obtain ⟨s, l, c0, b1, b2⟩ := hq i hi
    obtain ⟨bb, oo, ss⟩ := a
    simp only at s
    subst s
    exact ⟨bb, oo, rfl, l, c0, b1, b2⟩
end Go.Proofs.YtkiclbnbnjbcaabDoor.Re
namespace Go.Proofs.YtkiclbnbnjbcaabDoor.Re
open Go.ChangeShapes Go.WideShapes Go.ChangeAt Go.RowKit Go.Maps
set_option linter.unusedSimpArgs false
set_option linter.unusedVariables false
set_option maxRecDepth 8000

theorem IsL.weak {w : World} {base base' : Nat} {p : Option Addr} {L : List Rg} (h : IsL w base p L) (hb : base' ≤ base) : IsL w base' p L := fun i hi => by
  obtain ⟨g, e, l1, l2, c⟩ := h i hi
  exact ⟨g, e, by omega, l2, c⟩
theorem nil_isb (w : World) (base : Nat) : IsL w base none [] := fun i hi => absurd hi (Nat.not_lt_zero _)
theorem own_readb {w : World} {base : Nat} {v : Value} {L : List Rg} (h : OwnL w base v L) : ∃ p c, v = .slice p L.length c ∧ L.length ≤ c ∧ IsL w base p L := by
  obtain ⟨p, c, e, hi⟩ := own_read h
  refine ⟨p, c, e, ?_, hi⟩
  rcases h.2 with ⟨h1, h2⟩ | ⟨g, cap, cur, e1, e2, e3, e4, _⟩
  · omega
  · rw [e] at e1; cases e1; exact e4
theorem ans_readb {w' : World} {base : Nat} {v : Value} {er E : Int} {M : List Rg} (h : Ans w' base v er E M) : er = errA E M ∧ ∃ p c, v = .slice p (outL E M).length c ∧ (outL E M).length ≤ c ∧ IsL w' base p (outL E M) := by
  unfold outL errA
  rcases h with ⟨h1, h2, h3⟩ | ⟨h1, ⟨h2, h3, h4⟩ | ⟨h2, h3, h4⟩⟩
  · rw [if_neg h1, if_neg h1]
    exact ⟨h2, none, 0, h3, Nat.le_refl _, nil_isb _ _⟩
  · rw [if_pos h1, if_pos h2, if_pos rfl]
    obtain ⟨p, c, e1, e2, e3⟩ := own_readb h4
    exact ⟨h3, p, c, e1, e2, e3⟩
  · rw [if_pos h1, if_neg (by omega), if_neg (by omega)]
    exact ⟨h3, none, 0, h4, Nat.le_refl _, nil_isb _ _⟩
theorem cut_outb (base : Nat) (p : Option Addr) (c : Nat) (L : List Rg) (hL : L.length ≤ 100) (qf qt : Int) (E : Int) (M : List Rg) (hE : errA (checkN L qf qt) (chg (fun _ => Rg.zero) qf qt L) = E) (hM : outL (checkN L qf qt) (chg (fun _ => Rg.zero) qf qt L) = M) (w : World) (h : IsL w base p L) (hbs : base ≤ w.heap.size) :
    Calls Tryd.prog 9 #[.slice p L.length c, rgV qf qt] w fun e w' => ∃ p' c', e = .returned (.tuple #[.slice p' M.length c', .int .i64 E]) ∧ M.length ≤ c' ∧ IsL w' base p' M ∧ Below w.heap.size w w' :=
  (cut_any base p c L hL qf qt w h).mono fun e w' ⟨v, er, h1, h2, h3⟩ => by
    obtain ⟨k1, p', c', k2, k3, k4⟩ := ans_readb h2
    rw [hE] at k1; rw [hM] at k2 k3 k4
    exact ⟨p', c', by rw [h1, k1, k2], k3, k4.weak hbs, h3⟩
theorem prot_outb (base : Nat) (p : Option Addr) (c : Nat) (L : List Rg) (hL : L.length ≤ 100) (qf qt : Int) (pa pb pc : Bool) (E : Int) (M : List Rg) (hE : errA (protN L qf qt) (chg (fun r => r.may pa pb pc) qf qt L) = E) (hM : outL (protN L qf qt) (chg (fun r => r.may pa pb pc) qf qt L) = M) (w : World) (h : IsL w base p L) (hbs : base ≤ w.heap.size) :
    Calls Tryd.prog 10 #[.slice p L.length c, rgV qf qt, pmV pa pb pc] w fun e w' => ∃ p' c', e = .returned (.tuple #[.slice p' M.length c', .int .i64 E]) ∧ M.length ≤ c' ∧ IsL w' base p' M ∧ Below w.heap.size w w' :=
  (prot_any base p c L hL qf qt pa pb pc w h).mono fun e w' ⟨v, er, h1, h2, h3⟩ => by
    obtain ⟨k1, p', c', k2, k3, k4⟩ := ans_readb h2
    rw [hE] at k1; rw [hM] at k2 k3 k4
    exact ⟨p', c', by rw [h1, k1, k2], k3, k4.weak hbs, h3⟩
theorem add_outb (base : Nat) (p : Option Addr) (c : Nat) (L : List Rg) (hL : L.length ≤ 100) (hc : L.length ≤ c) (r : Rg) (E : Int) (M : List Rg) (hE : errA (addN L r) (addL L r) = E) (hM : outL (addN L r) (addL L r) = M) (w : World) (h : IsL w base p L) (hbs : base ≤ w.heap.size) :
    Calls Tryd.prog 8 #[.slice p L.length c, r.val] w fun e w' => ∃ p' c', e = .returned (.tuple #[.slice p' M.length c', .int .i64 E]) ∧ M.length ≤ c' ∧ IsL w' base p' M ∧ Below w.heap.size w w' :=
  (add_any base p c L hL hc r w h).mono fun e w' ⟨v, er, h1, h2, h3⟩ => by
    obtain ⟨k1, p', c', k2, k3, k4⟩ := ans_readb h2
    rw [hE] at k1; rw [hM] at k2 k3 k4
    exact ⟨p', c', by rw [h1, k1, k2], k3, k4.weak hbs, h3⟩
end Go.Proofs.YtkiclbnbnjbcaabDoor.Re
