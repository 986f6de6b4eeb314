/- Lists in memory: read, owned, made longer; bytes; numbers of bytes. -/
import Derived.Test.YtkiclbnbnjbcaaaDoorChecked
import Derived.WalkKit
import Derived.ProofKit
import Derived.OpenShut
import Derived.Carry
import Derived.Lib.SmallJoins
import Derived.Deep.Light
import Derived.Deep.MidRow
import Derived.Deep.RegionHeld3
import Derived.Deep.DrawnRows
import Derived.Deep.Slices
import Derived.Handy
import Derived.Laws.MakeOwn
import Derived.MapKept
import Derived.Laws.Tables
import Derived.Laws.CopyRow
import Derived.BigQuiet
import Derived.Deep.QuietTactic
import Derived.ChangeKeysEq
import Derived.Laws.StructEq
import Derived.Deep.DeepCutAuto
import Derived.Deep.CutBlock
import Derived.Maps.AppendAt
import Derived.BigRegion
import Derived.WalkSmall
namespace Go.Proofs.YtkiclbnbnjbcaaaDoor.Li
open Go.ChangeShapes Go.WideShapes Go.ChangeAt Go.RowKit Go.Maps
set_option linter.unusedSimpArgs false
set_option linter.unusedVariables false
set_option maxRecDepth 8000

theorem below_new {w w' : World} (h : Below w.heap.size w w') (o : Obj) : Below w.heap.size w (w'.alloc o) := h.alloc h.size o
theorem below_then {w x y : World} (h1 : Below w.heap.size w x) (h2 : Below x.heap.size x y) : Below w.heap.size w y := h1.trans (Go.Joins.below_le h2 h1.size)
theorem below_drew {n : Nat} {w W : World} (h : Below n w W) : Below n w W.drew := ⟨h.os, h.tape, h.output, h.size, h.block⟩
theorem below_drewN {n m : Nat} {w W : World} (h : Below n w W) : Below n w (W.drewN m) := ⟨h.os, h.tape, h.output, h.size, h.block⟩
theorem own1 (w : World) (o : Obj) : (w.alloc o).heap[w.heap.size]? = some o := (MapKept.heap_alloc w o).1
theorem blk_lt {w : World} {b : Nat} {o : Obj} (h : w.heap[b]? = some o) : b < w.heap.size := (Array.getElem?_eq_some_iff.1 h).1
theorem wf64 {k : Int} (h0 : -9223372036854775808 ≤ k) (h1 : k ≤ 9223372036854775807) : (Lit.int .i64 k).wf = true := by
  simp [Lit.wf, IntKind.min, IntKind.max, IntKind.signed, IntKind.bits]; omega
theorem bd64 {k : Int} (h : (Lit.int .i64 k).wf = true) : -9223372036854775808 ≤ k ∧ k ≤ 9223372036854775807 := by
  simp [Lit.wf, IntKind.min, IntKind.max, IntKind.signed, IntKind.bits] at h; omega
/-- a block's cells -/
abbrev Blk (w : World) (b : Nat) (C : List Value) (t : TypeId) : Prop := w.heap[b]? = some (.cells C.toArray t (0, 0))
theorem Blk.cell {w : World} {b : Nat} {C : List Value} {t : TypeId} (h : Blk w b C t) (i : Nat) : w.cell? ⟨b, i, none⟩ = C[i]? := by rw [Go.Joins.cell_of_block h i]; simp
theorem Blk.free {w : World} {b : Nat} {C : List Value} {t : TypeId} (h : Blk w b C t) (i : Nat) : w.frozen? ⟨b, i, none⟩ = false := Go.Joins.unfrozen_of_block h i
theorem Blk.below {w w' : World} {b : Nat} {C : List Value} {t : TypeId} (h : Blk w b C t) (k : Below w.heap.size w w') : Blk w' b C t := (k.block b (blk_lt h)).trans h
theorem Blk.made (w : World) (C : List Value) (t : TypeId) : Blk (w.alloc (.cells C.toArray t)) w.heap.size C t := own1 w _
theorem Blk.set {w : World} {b : Nat} {C : List Value} {t : TypeId} (h : Blk w b C t) (i : Nat) (v : Value) : Blk (w.setCell ⟨b, i, none⟩ v) b (C.set i v) t := by
  unfold Blk
  rw [Go.Joins.block_setCell h]; simp
theorem Blk.there {w : World} {b : Nat} {C : List Value} {t : TypeId} (h : Blk w b C t) : w.there b 0 C.length := fun j hj => by
  rw [Nat.zero_add]
  exact ⟨by rw [h.cell j, List.getElem?_eq_getElem hj]; rfl, h.free j⟩
theorem Blk.range {w : World} {b : Nat} {C : List Value} {t : TypeId} (h : Blk w b C t) : w.rangeAt b 0 C := fun j v hv => by rw [Nat.zero_add, h.cell j]; exact hv
theorem results_one {fn : Func} {p : Tmp} {t : TypeId} (h : fn.results = #[.cell p t]) (tmps : Array Value) (P : Program) (w : World) (a : Addr) (x : Value)
    (ha : tmps.getD p undef = .pointer (some a)) (hx : (loadVar t a).run P w = .ok x w) : (results fn tmps).run P w = .ok x w := by
  simp only [results, h]
  have e1 : ∀ W : World, (asAddr (Value.pointer (some a))).run P W = .ok a W := fun _ => rfl
  simp at ha
  simp [Sem.run_bind, Result.andThen, ha, e1, hx]
theorem store_pat {P : Program} {ops : Array Oper} {rest : List Oper} {ty t : TypeId} {x y : Operand} {pos : String} {af : Array Edge} {a : Act} {w : World} {Q : Exit → Act → World → Prop} (b o : Nat) (cells : Array Value) (hx : a.eval x = .pointer (some ⟨b, o, none⟩)) (hy : a.eval y = .agg cells)
    (ht : w.there b o cells.size) (hi : (P.info? ty).map (·.size) = some cells.size) (h1 : cells.all (·.oneCell') = true)
    (h : wpList P ops Q rest a (w.setCells b o cells.toList)) : wpList P ops Q ({ dst := none, op := .store ty x y, type := t, pos := pos, after := af, guard := none } :: rest) a w :=
  wpList_store_mid rfl ty x y rfl b o cells hx hy ht hi h1 h
theorem load_pat {P : Program} {ops : Array Oper} {rest : List Oper} {ty t : TypeId} {x : Operand} {q : Tmp} {pos : String} {af : Array Edge} {a : Act} {w : World} {Q : Exit → Act → World → Prop} (b o : Nat) (cs : List Value) (d : TypeDesc) (hx : a.eval x = .pointer (some ⟨b, o, none⟩)) (hc : w.rangeAt b o cs)
    (hu : P.underlying ty = some d) (hd : d.isRow = true) (hi : (P.info? ty).map (·.size) = some cs.length)
    (h : wpList P ops Q rest (a.put (some q) (.agg cs.toArray)) w) : wpList P ops Q ({ dst := some q, op := .load ty x, type := t, pos := pos, after := af, guard := none } :: rest) a w :=
  wpList_load_mid rfl ty x rfl b o hx cs d hc hu hd hi h
theorem wpList_app {P : Program} {ops : Array Oper} {rest : List Oper} {o : Oper} {a : Act} {w : World} {Q : Exit → Act → World → Prop} (hgd : o.guard = none) (s x : Operand) (t : TypeId)
    (ho : o.op = .call { callee := .builtin .append, args := #[s, x], argTypes := #[t, t] }) (vs vx : Value) (hs : a.eval s = vs) (hx : a.eval x = vx) (v' : Value) (w1 : World)
    (hr : (Builtin.append_ #[t, t] o.type #[vs, vx]).run P w = .ok v' w1) (h : wpList P ops Q rest (a.put o.dst v') w1) : wpList P ops Q (o :: rest) a w := by
  refine wpList_plain hgd fun K hK => ?_
  unfold Oper.wp execOp
  simp only [ho, resolve, invoke, builtin, Sem.run_bind, Sem.run_pure, Result.andThen_ok, List.map_toArray, List.map_cons, List.map_nil, hs, hx, hr]
  exact hK _ _ h
theorem row_keep {w w' : World} {base n e s : Nat} {v : Value} {xs : List Value} (h : w.ownsRow base e s v n xs) (hb : ∀ g, v.ownBlock = some g → w'.heap[g]? = w.heap[g]?) : w'.ownsRow base e s v n xs := by
  obtain ⟨h1, h2⟩ := h
  refine ⟨h1, ?_⟩
  rcases h2 with h2 | ⟨g', cap', cur, e1, e2, e3, e4⟩
  · exact Or.inl h2
  · exact Or.inr ⟨g', cap', cur, e1, e2, (hb g' (by rw [e1]; rfl)).trans e3, e4⟩
theorem row_lt {w : World} {base n e s : Nat} {v : Value} {xs : List Value} (h : w.ownsRow base e s v n xs) : ∀ g, v.ownBlock = some g → base ≤ g ∧ g < w.heap.size := by
  obtain ⟨h1, h2⟩ := h
  rcases h2 with ⟨rfl, _⟩ | ⟨g', cap', cur, rfl, e2, e3, e4⟩
  · intro j e; cases e
  · intro j e; cases e; exact ⟨e2, blk_lt e3⟩
theorem row_weak {w : World} {base base' n e s : Nat} {v : Value} {xs : List Value} (h : w.ownsRow base e s v n xs) (hb : base' ≤ base) : w.ownsRow base' e s v n xs := by
  obtain ⟨h1, h2⟩ := h
  rcases h2 with h2 | ⟨g', cap', cur, e1, e2, e3, e4⟩
  · exact ⟨h1, Or.inl h2⟩
  · exact ⟨h1, Or.inr ⟨g', cap', cur, e1, by omega, e3, e4⟩⟩
theorem row_below {w W : World} {base n e s : Nat} {v : Value} {xs : List Value} (h : w.ownsRow base e s v n xs) (hb : Below w.heap.size w W) : W.ownsRow base e s v n xs := row_keep h (fun g e => hb.block g (row_lt h g e).2)

/-! ### lists of elements of k cells -/
variable {α : Type}
/-- a list that lies in memory, in a block from lo on; or none at all -/
def LL (k : Nat) (enc : α → List Value) (w : World) (lo : Nat) (v : Value) (L : List α) : Prop :=
  (v = .slice none 0 0 ∧ L = []) ∨ ∃ g o c, v = .slice (some ⟨g, o, none⟩) L.length c ∧ L.length ≤ c ∧ lo ≤ g ∧ g < w.heap.size ∧ ∀ i (hi : i < L.length), ∀ j, j < k → w.cell? ⟨g, o + i * k + j, none⟩ = (enc L[i])[j]?
theorem LL.high {k : Nat} {enc : α → List Value} {w W : World} {lo : Nat} {v : Value} {L : List α} (H : LL k enc w lo v L) (hs : w.heap.size ≤ W.heap.size) (hb : ∀ j, lo ≤ j → j < w.heap.size → W.heap[j]? = w.heap[j]?) : LL k enc W lo v L := by
  rcases H with h | ⟨g, o, c, hv, hc, l0, lg, h⟩
  · exact Or.inl h
  · refine Or.inr ⟨g, o, c, hv, hc, l0, Nat.lt_of_lt_of_le lg hs, fun i hi j hj => ?_⟩
    rw [World.cell?_of_block (w := w) (a := ⟨g, o + i * k + j, none⟩) (hb g l0 lg)]; exact h i hi j hj
theorem LL.below {k : Nat} {enc : α → List Value} {w W : World} {lo : Nat} {v : Value} {L : List α} (H : LL k enc w lo v L) (hb : Below w.heap.size w W) : LL k enc W lo v L := H.high hb.size (fun j _ hj => hb.block j hj)
theorem LL.low {k : Nat} {enc : α → List Value} {w : World} {lo lo' : Nat} {v : Value} {L : List α} (H : LL k enc w lo v L) (h : lo' ≤ lo) : LL k enc w lo' v L := by
  rcases H with h' | ⟨g, o, c, hv, hc, l0, r⟩
  · exact Or.inl h'
  · exact Or.inr ⟨g, o, c, hv, hc, Nat.le_trans h l0, r⟩
theorem LL.form {k : Nat} {enc : α → List Value} {w : World} {lo : Nat} {v : Value} {L : List α} (H : LL k enc w lo v L) : ∃ p c, v = .slice p L.length c ∧ L.length ≤ c ∧ (p = none → L = [] ∧ c = 0) ∧ ∀ i (hi : i < L.length), ∃ g o, p = some ⟨g, o, none⟩ ∧ lo ≤ g ∧ g < w.heap.size ∧ ∀ j, j < k → w.cell? ⟨g, o + i * k + j, none⟩ = (enc L[i])[j]? := by
  rcases H with ⟨h1, h2⟩ | ⟨g, o, c, hv, hc, l0, lg, h⟩
  · subst h2
    exact ⟨none, 0, h1, Nat.le_refl _, fun _ => ⟨rfl, rfl⟩, fun i hi => absurd hi (Nat.not_lt_zero _)⟩
  · exact ⟨_, c, hv, hc, (fun h => by cases h), fun i hi => ⟨g, o, rfl, l0, lg, h i hi⟩⟩
theorem ll_nil (k : Nat) (enc : α → List Value) (w : World) (lo : Nat) : LL k enc w lo (.slice none 0 0) [] := Or.inl ⟨rfl, rfl⟩
/-- an owned list -/
abbrev OL (T : TypeId) (k : Nat) (enc : α → List Value) (w : World) (base : Nat) (v : Value) (L : List α) : Prop := w.ownsRow base T k v L.length (L.flatMap enc)
theorem flat_len {enc : α → List Value} {k : Nat} (hk : ∀ x, (enc x).length = k) : ∀ L : List α, (L.flatMap enc).length = L.length * k
  | [] => by simp
  | x :: L => by rw [List.flatMap_cons, List.length_append, flat_len hk L, hk, List.length_cons, Nat.add_mul, Nat.one_mul, Nat.add_comm]
theorem flat_get {enc : α → List Value} {k : Nat} (hk : ∀ x, (enc x).length = k) : ∀ (L : List α) (i : Nat) (hi : i < L.length) (j : Nat), j < k → (L.flatMap enc)[i * k + j]? = (enc L[i])[j]?
  | [], i, hi, _, _ => absurd hi (Nat.not_lt_zero _)
  | x :: L, 0, hi, j, hj => by
    rw [List.flatMap_cons, Nat.zero_mul, Nat.zero_add, List.getElem?_append_left (by rw [hk]; exact hj)]; rfl
  | x :: L, i + 1, hi, j, hj => by
    rw [List.flatMap_cons, List.getElem?_append_right (by rw [hk, Nat.add_mul, Nat.one_mul]; omega), hk]
    have : (i + 1) * k + j - k = i * k + j := by rw [Nat.add_mul, Nat.one_mul]; omega
    rw [this, flat_get hk L i (by simpa using hi) j hj]; rfl
theorem ol_ll {T : TypeId} {k : Nat} {enc : α → List Value} (hk : ∀ x, (enc x).length = k) {w : World} {base : Nat} {v : Value} {L : List α} (O : OL T k enc w base v L) : LL k enc w base v L := by
  have hc := fun g (hg : v.ownBlock = some g) => World.ownsRow.cells (g := g) O hg
  obtain ⟨hl', ⟨hv, h0⟩ | ⟨g, cap, cur, hv, hb, hblk, hcap, _⟩⟩ := O
  · exact Or.inl ⟨hv, List.eq_nil_of_length_eq_zero h0⟩
  · refine Or.inr ⟨g, 0, cap, hv, hcap, hb, blk_lt hblk, fun i hi j hj => ?_⟩
    have hg := flat_get hk L i hi j hj
    have hlt : j < (enc L[i]).length := by rw [hk]; exact hj
    rw [List.getElem?_eq_getElem hlt] at hg ⊢
    have := hc g (by rw [hv]; rfl) (i * k + j) _ hg
    rw [Addr.add_mid, Nat.zero_add] at this
    rw [Nat.zero_add]; exact this
theorem ol_made {T : TypeId} {k : Nat} {enc : α → List Value} (w : World) (base : Nat) (hb : base ≤ w.heap.size) : OL T k enc (w.alloc (.cells #[] T)) base (.slice (some ⟨w.heap.size, 0, none⟩) 0 0) [] := ⟨by simp, Or.inr ⟨w.heap.size, 0, #[], rfl, hb, own1 w _, by simp, by simp, by simp, by simp⟩⟩
theorem ol_none (T : TypeId) (k : Nat) (enc : α → List Value) (w : World) (base : Nat) : OL T k enc w base (.slice none 0 0) [] := World.ownsRow_nil (w := w) (base := base) (e := T) (size := k)
theorem ol_one {T : TypeId} {k : Nat} {enc : α → List Value} (hk : ∀ x, (enc x).length = k) (w : World) (base : Nat) (hb : base ≤ w.heap.size) (x : α) : OL T k enc (w.alloc (.cells (enc x).toArray T)) base (.slice (some ⟨w.heap.size, 0, none⟩) 1 1) [x] :=
  ⟨by simp [hk], Or.inr ⟨w.heap.size, 1, (enc x).toArray, rfl, hb, own1 w _, Nat.le_refl _, by unfold maxLen; omega, by simp [hk], by simp [← hk x]⟩⟩
theorem app_row {k : Nat} {enc : α → List Value} (hk : ∀ x, (enc x).length = k) (h1 : ∀ x, ∀ u ∈ enc x, u.oneCell' = true) (k0 : 0 < k) {T S : TypeId} {z : Value} {bytes : Nat} (hS : Tryd.prog.underlying S = some (.slice T)) (hI : ∃ i, Tryd.prog.info? T = some i ∧ i.zero = some z ∧ i.size = k ∧ i.bytes = bytes) (hz : z.cells.size = k) (hb8 : bytes ≤ 100)
    (base : Nat) (v : Value) (L : List α) (x : α) (hL : L.length ≤ 1048576) (w : World) (h : OL T k enc w base v L) (hb : base ≤ w.heap.size) :
    ∃ v' W2, (Builtin.append_ #[S, S] S #[v, .slice (some ⟨w.heap.size, 0, none⟩) 1 1]).run Tryd.prog (w.alloc (.cells (enc x).toArray T)) = .ok v' W2 ∧ OL T k enc W2 base v' (L ++ [x]) ∧ (w.alloc (.cells (enc x).toArray T)).grownBy W2 v.ownBlock ∧ (v'.ownBlock = v.ownBlock ∨ v'.ownBlock = some (w.heap.size + 1)) := by
  obtain ⟨i0, hi, hz0, hz1, hz2⟩ := hI
  have O0 : OL T k enc (w.alloc (.cells (enc x).toArray T)) base v L := row_below h (Go.Joins.below_alloc1 _ _)
  obtain ⟨v', W2, r, ho, hg, _, hat⟩ := run_append_own_at (P := Tryd.prog) (w.alloc (.cells (enc x).toArray T)) base S S T i0 z k bytes hS hi hz0 hz1 hz2 hz k0 v L.length (L.flatMap enc) O0
    ⟨w.heap.size, 0, none⟩ 1 1 (enc x) (by rw [hk, Nat.one_mul]) (fun j u hu => by
      rw [Addr.add_mid, Nat.zero_add, Go.Joins.cell_of_block (own1 w _)]
      simpa using hu) (h1 x) (by unfold maxLen; omega) (by
        have : (L.length + 1) * bytes ≤ 1048577 * 100 := Nat.mul_le_mul (by omega) hb8
        omega) (by rw [World.size_alloc]; omega)
  rw [World.size_alloc] at hat
  refine ⟨v', W2, r, ?_, hg, hat⟩
  show W2.ownsRow base T k v' (L ++ [x]).length ((L ++ [x]).flatMap enc)
  rw [List.length_append, List.flatMap_append, List.flatMap_cons, List.flatMap_nil, List.append_nil]; exact ho
/-- a whole list is laid behind -/
theorem app_all {k : Nat} {enc : α → List Value} (hk : ∀ x, (enc x).length = k) (h1 : ∀ x, ∀ u ∈ enc x, u.oneCell' = true) (k0 : 0 < k) {T S : TypeId} {z : Value} {bytes : Nat} (hS : Tryd.prog.underlying S = some (.slice T)) (hI : ∃ i, Tryd.prog.info? T = some i ∧ i.zero = some z ∧ i.size = k ∧ i.bytes = bytes) (hz : z.cells.size = k) (hb8 : bytes ≤ 100)
    (base : Nat) (v : Value) (L M : List α) (g o m c : Nat) (hm : m = M.length) (hL : L.length + M.length ≤ 1048576) (w : World) (h : OL T k enc w base v L) (hM : ∀ i (hi : i < M.length), ∀ j, j < k → w.cell? ⟨g, o + i * k + j, none⟩ = (enc M[i])[j]?) (hb : base ≤ w.heap.size) :
    ∃ v' W2, (Builtin.append_ #[S, S] S #[v, .slice (some ⟨g, o, none⟩) m c]).run Tryd.prog w = .ok v' W2 ∧ OL T k enc W2 base v' (L ++ M) ∧ w.grownBy W2 v.ownBlock ∧ (v'.ownBlock = v.ownBlock ∨ v'.ownBlock = some w.heap.size) := by
  subst hm
  obtain ⟨i0, hi, hz0, hz1, hz2⟩ := hI
  obtain ⟨v', W2, r, ho, hg, _, hat⟩ := run_append_own_at (P := Tryd.prog) w base S S T i0 z k bytes hS hi hz0 hz1 hz2 hz k0 v L.length (L.flatMap enc) h
    ⟨g, o, none⟩ M.length c (M.flatMap enc) (flat_len hk M) (fun j u hu => by
      have jl : j < M.length * k := by rw [← flat_len hk M]; exact (List.getElem?_eq_some_iff.1 hu).1
      have i1 : j / k < M.length := Nat.div_lt_of_lt_mul (by rw [Nat.mul_comm]; exact jl)
      have e : j = j / k * k + j % k := by rw [Nat.mul_comm]; exact (Nat.div_add_mod j k).symm
      have jk : j % k < k := Nat.mod_lt _ k0
      have q := flat_get hk M (j / k) i1 (j % k) jk
      rw [← e, hu] at q
      have c := hM (j / k) i1 (j % k) jk
      rw [Nat.add_assoc, ← e, ← q] at c
      rw [Addr.add_mid]; exact c) (fun u hu => by
      obtain ⟨x, _, hx⟩ := List.mem_flatMap.1 hu
      exact h1 x u hx) (by unfold maxLen; omega) (by
        have : (L.length + M.length) * bytes ≤ 1048576 * 100 := Nat.mul_le_mul hL hb8
        omega) hb
  refine ⟨v', W2, r, ?_, hg, hat⟩
  show W2.ownsRow base T k v' (L ++ M).length ((L ++ M).flatMap enc)
  rw [List.length_append, List.flatMap_append]; exact ho

/-! ### ranges, areas, bytes -/
def eR (x : Int × Int) : List Value := [.int .i64 x.1, .int .i64 x.2]
theorem eR_len (x : Int × Int) : (eR x).length = 2 := rfl
theorem eR_one (x : Int × Int) : ∀ u ∈ eR x, u.oneCell' = true := by intro u hu; simp [eR] at hu; rcases hu with rfl | rfl <;> rfl
theorem infoR : ∃ i, Tryd.prog.info? 82 = some i ∧ i.zero = some (.agg #[.int .i64 0, .int .i64 0]) ∧ i.size = 2 ∧ i.bytes = 16 := ⟨_, rfl, by kernel_rfl, by kernel_rfl, by kernel_rfl⟩
abbrev RL (w : World) (lo : Nat) (v : Value) (L : List (Int × Int)) : Prop := LL 2 eR w lo v L
abbrev OR (w : World) (base : Nat) (v : Value) (L : List (Int × Int)) : Prop := OL 82 2 eR w base v L
def eI (x : Int) : List Value := [.int .i64 x]
theorem eI_len (x : Int) : (eI x).length = 1 := rfl
theorem eI_one (x : Int) : ∀ u ∈ eI x, u.oneCell' = true := by intro u hu; simp [eI] at hu; subst hu; rfl
theorem infoI : ∃ i, Tryd.prog.info? 3 = some i ∧ i.zero = some (.int .i64 0) ∧ i.size = 1 ∧ i.bytes = 8 := ⟨_, rfl, by kernel_rfl, by kernel_rfl, by kernel_rfl⟩
abbrev IL (w : World) (lo : Nat) (v : Value) (L : List Int) : Prop := LL 1 eI w lo v L
abbrev OI (w : World) (base : Nat) (v : Value) (L : List Int) : Prop := OL 3 1 eI w base v L
end Go.Proofs.YtkiclbnbnjbcaaaDoor.Li
