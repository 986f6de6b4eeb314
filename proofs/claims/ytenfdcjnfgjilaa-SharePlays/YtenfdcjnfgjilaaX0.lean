/- Grants: the document's rows. -/
import Derived.Test.YtenfdcjnfgjilaaS9
import Derived.Test.YtenfdcjnfgjilaaSM
namespace Go.Proofs.Ytenfdcjnfgjilaa
open Go.ChangeShapes Go.WideShapes Go.ChangeAt Go.RowKit Go.Maps
set_option linter.unusedSimpArgs false
set_option linter.unusedVariables false
set_option maxRecDepth 8000
set_option maxRecDepth 8000
set_option maxRecDepth 8000

structure Rq where
  i : Int
  fr : Int
  pg : Int
  dst : Int
  wr : Bool
  tk : Bool
  att : Int
def Rq.zero : Rq := ⟨0, 0, 0, 0, false, false, 0⟩
def Rq.enc (r : Rq) : List Value := [.int .i64 r.i, .int .i64 r.fr, .int .i64 r.pg, .int .i64 r.dst, .bool r.wr, .bool r.tk, .int .i64 r.att]
abbrev Rq.val (r : Rq) : Value := .agg #[.int .i64 r.i, .int .i64 r.fr, .int .i64 r.pg, .int .i64 r.dst, .bool r.wr, .bool r.tk, .int .i64 r.att]
def tellG (g : Gr) (i : Int) : Rq := ⟨i, g.fr, g.pg, g.dst, g.wr, g.tk, g.att⟩
def IsRq (w : World) (base : Nat) (p : Option Addr) (L : List Rq) : Prop := ∀ i, i < L.length → ∃ g, p = some ⟨g, 0, none⟩ ∧ base ≤ g ∧ g < w.heap.size ∧ ∀ j x, (L.getD i Rq.zero).enc[j]? = some x → w.cell? ⟨g, i * 7 + j, none⟩ = some x
theorem IsRq.below {w w' : World} {base : Nat} {p : Option Addr} {L : List Rq} (h : IsRq w base p L) (hb : Below w.heap.size w w') : IsRq w' base p L := fun i hi => by
  obtain ⟨g, e, l1, l2, c⟩ := h i hi
  exact ⟨g, e, l1, Nat.lt_of_lt_of_le l2 hb.size, fun j x hx => (hb.cell (p := ⟨g, i * 7 + j, none⟩) l2).trans (c j x hx)⟩
theorem IsRq.grown {w w' : World} {base c : Nat} {p : Option Addr} {L : List Rq} (h : IsRq w base p L) (hg : w.grownBy w' (some c)) (ne : c < base) : IsRq w' base p L := fun i hi => by
  obtain ⟨g, e, l1, l2, k⟩ := h i hi
  exact ⟨g, e, l1, Nat.lt_of_lt_of_le l2 hg.size, fun j x hx => (World.cell?_of_block (w := w) (a := ⟨g, i * 7 + j, none⟩) (hg.block g l2 (fun q => by have := Option.some.inj q; omega))).trans (k j x hx)⟩
theorem IsRq.weak {w : World} {base base' : Nat} {p : Option Addr} {L : List Rq} (h : IsRq w base p L) (hb : base' ≤ base) : IsRq w base' p L := fun i hi => by
  obtain ⟨g, e, l1, l2, c⟩ := h i hi
  exact ⟨g, e, by omega, l2, c⟩
theorem rqenc_len (r : Rq) : r.enc.length = 7 := rfl
theorem flatq_enc : ∀ (L : List Rq) (i j : Nat), i < L.length → j < 7 → (L.flatMap Rq.enc)[i * 7 + j]? = (L.getD i Rq.zero).enc[j]?
  | [], i, j, h, _ => absurd h (Nat.not_lt_zero _)
  | l :: r, 0, j, h, hj => by
    rw [List.flatMap_cons, List.getElem?_append_left (by rw [rqenc_len]; omega)]
    simp [List.getD]
  | l :: r, i + 1, j, h, hj => by
    rw [List.flatMap_cons, List.getElem?_append_right (by rw [rqenc_len]; omega), rqenc_len]
    rw [show (i + 1) * 7 + j - 7 = i * 7 + j by omega, flatq_enc r i j (by simpa using h) hj]
    simp [List.getD]
/-- a row of the document's lines in the making -/
def OwnRq (w : World) (base : Nat) (v : Value) (L : List Rq) : Prop := w.ownsRow base 41 7 v L.length (L.flatMap Rq.enc)
theorem ownrq_read {w : World} {base : Nat} {v : Value} {L : List Rq} (h : OwnRq w base v L) : ∃ p c, v = .slice p L.length c ∧ L.length ≤ c ∧ IsRq w base p L := by
  obtain ⟨h1, h2 | ⟨g, cap, cur, e1, e2, e3, e4, e5, e6, e7⟩⟩ := h
  · refine ⟨none, 0, by rw [h2.1, h2.2], by rw [h2.2]; exact Nat.le_refl _, fun i hi => ?_⟩
    rw [h2.2] at hi; exact absurd hi (Nat.not_lt_zero _)
  · refine ⟨_, cap, e1, e4, fun i hi => ⟨g, rfl, e2, (Array.getElem?_eq_some_iff.1 e3).1, fun j x hx => ?_⟩⟩
    have hj : j < 7 := (List.getElem?_eq_some_iff.1 hx).1
    rw [Go.Joins.cell_of_block e3 _]
    have : (cur.toList.take (L.length * 7))[i * 7 + j]? = (L.flatMap Rq.enc)[i * 7 + j]? := by rw [e7]
    rw [List.getElem?_take, if_pos (by omega), Array.getElem?_toList, flatq_enc L i j hi hj] at this
    rw [this]; exact hx
theorem OwnRq.next {w : World} {base : Nat} {v : Value} {L : List Rq} {r : Rq} (h : w.ownsRow base 41 7 v (L.length + 1) (L.flatMap Rq.enc ++ r.enc)) : OwnRq w base v (L ++ [r]) := by
  unfold OwnRq; simpa [List.flatMap_append] using h
theorem startrq (w : World) : OwnRq (w.alloc (.cells #[] 41)) w.heap.size (.slice (some ⟨w.heap.size, 0, none⟩) 0 0) [] := startrg w
theorem takeQ (L : List Rq) (m : Nat) (h : m < L.length) : L.take (m + 1) = L.take m ++ [L.getD m Rq.zero] := by
  rw [List.take_add_one, List.getElem?_eq_getElem h]; simp [List.getD, List.getElem?_eq_getElem h]
theorem cells9 {w : World} {b : Nat} {C : Array Value} {t : TypeId} (h : w.heap[b]? = some (.cells C t (0, 0))) (j : Nat) (v : Value) (hv : C[j]? = some v) : w.cell? ⟨b, j, none⟩ = some v := (Go.Joins.cell_of_block h j).trans hv
theorem own_lt {w : World} {base n e s : Nat} {v : Value} {xs : List Value} (h : w.ownsRow base e s v n xs) : ∀ j, v.ownBlock = some j → j < w.heap.size := by
  obtain ⟨h1, h2 | ⟨g, cap, cur, e1, e2, e3, e4⟩⟩ := h
  · rw [h2.1]; intro j hj; cases hj
  · rw [e1]; intro j hj; cases hj; exact (Array.getElem?_eq_some_iff.1 e3).1
theorem yh_next {U a0 : World} {v : Value} {yb : Nat} {o : Obj} (hg : U.grownBy a0 v.ownBlock) (h : U.heap[yb]? = some o) (hne : ∀ j, v.ownBlock = some j → j ≠ yb) : a0.heap[yb]? = some o :=
  (hg.block yb (Array.getElem?_eq_some_iff.1 h).1 (fun q => hne yb q.symm rfl)).trans h
/-- the document's functions on lists -/
def findQ : List Rq → Int → Rq × Bool
  | [], _ => (Rq.zero, false)
  | r :: l, i => if r.i = i then (r, true) else findQ l i
theorem findQ_hit (i : Int) : ∀ (L : List Rq) (m : Nat), m < L.length → (∀ k, k < m → (L.getD k Rq.zero).i ≠ i) → (L.getD m Rq.zero).i = i → findQ L i = (L.getD m Rq.zero, true)
  | [], m, h, _, _ => absurd h (Nat.not_lt_zero _)
  | r :: l, 0, _, _, e => by
    have e' : r.i = i := by simpa [List.getD] using e
    rw [findQ, if_pos e']; simp [List.getD]
  | r :: l, m + 1, h, no, e => by
    have n0 : r.i ≠ i := by have := no 0 (by omega); simpa [List.getD] using this
    rw [findQ, if_neg n0, findQ_hit i l m (by simpa using h) (fun k hk => by have := no (k + 1) (by omega); simpa [List.getD] using this) (by simpa [List.getD] using e)]
    simp [List.getD]
theorem findQ_miss (i : Int) : ∀ (L : List Rq), (∀ k, k < L.length → (L.getD k Rq.zero).i ≠ i) → findQ L i = (Rq.zero, false)
  | [], _ => rfl
  | r :: l, no => by
    have n0 : r.i ≠ i := by have := no 0 (by simp); simpa [List.getD] using this
    rw [findQ, if_neg n0]
    exact findQ_miss i l (fun k hk => by have := no (k + 1) (by simpa using hk); simpa [List.getD] using this)
theorem findQ_append (i : Int) (M : List Rq) : ∀ L : List Rq, findQ (L ++ M) i = if (findQ L i).2 = true then findQ L i else findQ M i
  | [] => by simp [findQ]
  | r :: l => by
    rw [List.cons_append, findQ, findQ]
    by_cases c : r.i = i
    · rw [if_pos c, if_pos c, if_pos rfl]
    · rw [if_neg c, if_neg c, findQ_append i M l]
/-- a step of put, and of put's second half -/
def pstep (x : Rq) (s : List Rq × Bool) (r : Rq) : List Rq × Bool :=
  if (!s.2 && decide (x.i ≤ r.i)) = true then (if r.i = x.i then (s.1 ++ [x], true) else (s.1 ++ [x] ++ [r], true)) else (if r.i = x.i then s else (s.1 ++ [r], s.2))
def putS (L : List Rq) (x : Rq) : List Rq × Bool := L.foldl (pstep x) ([], false)
def putQ (L : List Rq) (x : Rq) : List Rq := if (putS L x).2 = true then (putS L x).1 else (putS L x).1 ++ [x]
theorem put_snoc (L : List Rq) (x r : Rq) : putS (L ++ [r]) x = pstep x (putS L x) r := by unfold putS; rw [List.foldl_append]; rfl
def withoutQ (L : List Rq) (i : Int) : List Rq := L.filter (fun r => !(r.i == i))
def ofQ (L : List Rq) (p : Int) : List Rq := L.filter (fun r => r.fr == p || r.dst == p)
def lentQ (L : List Rq) (f p : Int) : Nat := (L.filter (fun r => r.fr == f && r.pg == p && r.tk)).length
/-- the grants of a table, in order -/
def rowG (T : Nat → Gr) : Nat → List Rq
  | 0 => []
  | m + 1 => rowG T m ++ (if (T m).is then [tellG (T m) m] else [])
theorem row_yes (T : Nat → Gr) (m : Nat) (h : (T m).is = true) : rowG T (m + 1) = rowG T m ++ [tellG (T m) m] := by rw [rowG, if_pos h]
theorem row_no (T : Nat → Gr) (m : Nat) (h : (T m).is = false) : rowG T (m + 1) = rowG T m := by rw [rowG, if_neg (by rw [h]; simp), List.append_nil]
theorem row_len (T : Nat → Gr) : ∀ m, (rowG T m).length ≤ m
  | 0 => by simp [rowG]
  | m + 1 => by
    have := row_len T m
    cases c : (T m).is
    · rw [row_no T m c]; omega
    · rw [row_yes T m c]; simp; omega
theorem row_find (T : Nat → Gr) (i : Int) : ∀ n, findQ (rowG T n) i = if 0 ≤ i ∧ i < n ∧ (T i.toNat).is = true then (tellG (T i.toNat) i, true) else (Rq.zero, false)
  | 0 => by rw [if_neg (by omega)]; rfl
  | n + 1 => by
    have ih := row_find T i n
    cases c : (T n).is
    · rw [row_no T n c, ih]
      by_cases e : i = n
      · subst e
        rw [if_neg (by omega), if_neg (by rw [Int.toNat_natCast, c]; simp)]
      · by_cases d : 0 ≤ i ∧ i < n ∧ (T i.toNat).is = true
        · rw [if_pos d, if_pos ⟨d.1, by omega, d.2.2⟩]
        · rw [if_neg d, if_neg (fun q => d ⟨q.1, by omega, q.2.2⟩)]
    · by_cases e : i = n
      · subst e
        have ih' : findQ (rowG T n) (n : Int) = (Rq.zero, false) := by rw [ih, if_neg (by omega)]
        have hc : 0 ≤ (n : Int) ∧ (n : Int) < ((n + 1 : Nat) : Int) ∧ (T (n : Int).toNat).is = true := ⟨by omega, by omega, by rw [Int.toNat_natCast]; exact c⟩
        rw [if_pos hc, row_yes T n c, findQ_append, ih', if_neg (by simp), Int.toNat_natCast, findQ, if_pos (show (tellG (T n) (n : Int)).i = (n : Int) from rfl)]
      · rw [row_yes T n c, findQ_append]
        by_cases d : 0 ≤ i ∧ i < n ∧ (T i.toNat).is = true
        · have ih' : findQ (rowG T n) i = (tellG (T i.toNat) i, true) := by rw [ih, if_pos d]
          have hc : 0 ≤ i ∧ i < ((n + 1 : Nat) : Int) ∧ (T i.toNat).is = true := ⟨d.1, by omega, d.2.2⟩
          rw [if_pos hc, ih', if_pos rfl]
        · have ih' : findQ (rowG T n) i = (Rq.zero, false) := by rw [ih, if_neg d]
          have hc : ¬ (0 ≤ i ∧ i < ((n + 1 : Nat) : Int) ∧ (T i.toNat).is = true) := fun q => d ⟨q.1, by omega, q.2.2⟩
          rw [if_neg hc, ih', if_neg (by simp), findQ, if_neg (fun q => e q.symm)]
          rfl
def findV (T : Nat → Gr) (i : Int) : Rq := if (getG T i).is = true then tellG (getG T i) i else Rq.zero
theorem find_row (T : Nat → Gr) (i : Int) : findQ (rowG T 256) i = (findV T i, (getG T i).is) := by
  rw [row_find]
  unfold findV getG
  by_cases c : 0 ≤ i ∧ i < 256
  · rw [if_pos c]
    cases d : (T i.toNat).is
    · rw [if_neg (by simp), if_neg (by simp)]
    · rw [if_pos ⟨c.1, by omega, rfl⟩, if_pos rfl]
  · rw [if_neg c, if_neg (fun q => c ⟨q.1, by omega⟩)]
    rfl
theorem row_same (T T' : Nat → Gr) : ∀ n, (∀ k, k < n → T k = T' k) → rowG T n = rowG T' n
  | 0, _ => rfl
  | n + 1, h => by rw [rowG, rowG, row_same T T' n (fun k hk => h k (by omega)), h n (by omega)]
theorem row_stop (T : Nat → Gr) (i : Nat) : ∀ n, i ≤ n → (∀ k, i ≤ k → k < n → (T k).is = false) → rowG T n = rowG T i
  | 0, h, _ => by rw [show i = 0 by omega]
  | n + 1, h, no => by
    by_cases c : i = n + 1
    · rw [c]
    · rw [row_no T n (no n (by omega) (by omega)), row_stop T i n (by omega) (fun k h1 h2 => no k h1 (by omega))]
theorem put_inv (T : Nat → Gr) (i : Nat) (g : Gr) (hg : g.is = true) : ∀ n, ((putS (rowG T n) (tellG g i)).2 = true ∧ (putS (rowG T n) (tellG g i)).1 = rowG (putT T i g) n ∧ i < n) ∨ ((putS (rowG T n) (tellG g i)).2 = false ∧ (putS (rowG T n) (tellG g i)).1 = rowG T n ∧ ∀ k, i ≤ k → k < n → (T k).is = false)
  | 0 => Or.inr ⟨rfl, rfl, fun k h1 h2 => by omega⟩
  | n + 1 => by
    have ih := put_inv T i g hg n
    cases c : (T n).is
    · rw [row_no T n c]
      rcases ih with ⟨h1, h2, h3⟩ | ⟨h1, h2, h3⟩
      · refine Or.inl ⟨h1, ?_, by omega⟩
        rw [h2, row_no (putT T i g) n (by rw [put_other _ _ _ _ (by omega)]; exact c)]
      · refine Or.inr ⟨h1, h2, fun k a b => ?_⟩
        by_cases e : k = n
        · rw [e]; exact c
        · exact h3 k a (by omega)
    · rw [row_yes T n c, put_snoc]
      rcases ih with ⟨h1, h2, h3⟩ | ⟨h1, h2, h3⟩
      · left
        unfold pstep
        rw [h1, if_neg (by simp), if_neg (show ¬ (tellG (T n) n).i = (tellG g i).i from fun q => by have : (n : Int) = i := q; omega)]
        refine ⟨rfl, ?_, by omega⟩
        rw [row_yes (putT T i g) n (by rw [put_other _ _ _ _ (by omega)]; exact c), put_other _ _ _ _ (by omega)]
        show (putS (rowG T n) (tellG g i)).1 ++ _ = _
        rw [h2]
      · unfold pstep
        rw [h1]
        by_cases d : i ≤ n
        · left
          have dd : (!false && decide ((tellG g i).i ≤ (tellG (T n) n).i)) = true := by
            simp; show (i : Int) ≤ n; omega
          rw [if_pos dd]
          have e0 : rowG (putT T i g) (n + 1) = rowG T n ++ [tellG g i] ++ (if n = i then [] else [tellG (T n) n]) := by
            have s1 : rowG T n = rowG T i := row_stop T i n d h3
            by_cases e : n = i
            · subst e
              rw [if_pos rfl, List.append_nil, row_yes _ n (by rw [put_same]; exact hg), put_same, row_same (putT T n g) T n (fun k hk => put_other _ _ _ _ (by omega))]
            · rw [if_neg e, row_yes _ n (by rw [put_other _ _ _ _ e]; exact c), put_other _ _ _ _ e]
              have s2 : rowG (putT T i g) n = rowG (putT T i g) (i + 1) := row_stop _ (i + 1) n (by omega) (fun k h1 h2 => by rw [put_other _ _ _ _ (by omega)]; exact h3 k (by omega) h2)
              rw [s2, row_yes _ i (by rw [put_same]; exact hg), put_same, row_same (putT T i g) T i (fun k hk => put_other _ _ _ _ (by omega)), s1]
          by_cases e : (tellG (T n) n).i = (tellG g i).i
          · have e' : n = i := by have : (n : Int) = i := e; omega
            rw [if_pos e]
            exact ⟨rfl, by rw [e0, if_pos e', List.append_nil]; show (putS (rowG T n) (tellG g i)).1 ++ _ = _; rw [h2], by omega⟩
          · have e' : ¬ n = i := fun q => e (by show (n : Int) = i; omega)
            rw [if_neg e]
            exact ⟨rfl, by rw [e0, if_neg e']; show (putS (rowG T n) (tellG g i)).1 ++ _ ++ _ = _; rw [h2], by omega⟩
        · right
          have dd : (!false && decide ((tellG g i).i ≤ (tellG (T n) n).i)) = false := by
            simp; show (n : Int) < i; omega
          rw [if_neg (by rw [dd]; simp), if_neg (show ¬ (tellG (T n) n).i = (tellG g i).i from fun q => by have : (n : Int) = i := q; omega)]
          exact ⟨rfl, by show (putS (rowG T n) (tellG g i)).1 ++ _ = _; rw [h2], fun k a b => by omega⟩
theorem row_put (T : Nat → Gr) (i : Nat) (g : Gr) (hg : g.is = true) (hi : i < 256) : putQ (rowG T 256) (tellG g i) = rowG (putT T i g) 256 := by
  unfold putQ
  rcases put_inv T i g hg 256 with ⟨h1, h2, _⟩ | ⟨h1, h2, h3⟩
  · rw [if_pos h1, h2]
  · rw [if_neg (by rw [h1]; simp), h2]
    have s2 : rowG (putT T i g) 256 = rowG (putT T i g) (i + 1) := row_stop _ (i + 1) 256 (by omega) (fun k a b => by rw [put_other _ _ _ _ (by omega)]; exact h3 k (by omega) b)
    rw [s2, row_yes _ i (by rw [put_same]; exact hg), put_same, row_same (putT T i g) T i (fun k hk => put_other _ _ _ _ (by omega)), row_stop T i 256 (by omega) h3]
theorem row_without (T : Nat → Gr) (i : Nat) : ∀ n, withoutQ (rowG T n) i = rowG (putT T i Gr.zero) n
  | 0 => rfl
  | n + 1 => by
    have ih := row_without T i n
    unfold withoutQ at ih ⊢
    cases c : (T n).is
    · rw [row_no T n c, ih, row_no]
      by_cases e : n = i
      · rw [e, put_same]; rfl
      · rw [put_other _ _ _ _ e]; exact c
    · rw [row_yes T n c, List.filter_append, ih]
      by_cases e : n = i
      · subst e
        rw [row_no (putT T n Gr.zero) n (by rw [put_same]; rfl), List.filter_cons, if_neg (by simp [tellG])]
        simp
      · rw [row_yes (putT T i Gr.zero) n (by rw [put_other _ _ _ _ e]; exact c), put_other _ _ _ _ e, List.filter_cons, if_pos (by simp [tellG]; omega)]
        simp
theorem row_of (T : Nat → Gr) (p : Int) : ∀ n, ofQ (rowG T n) p = (ofL T p n).map (fun k => tellG (T k) (k : Nat))
  | 0 => rfl
  | n + 1 => by
    have ih := row_of T p n
    unfold ofQ at ih ⊢
    cases c : (T n).is
    · rw [row_no T n c, ih, of_no T p n (by unfold ofP; rw [c]; rfl)]
    · rw [row_yes T n c, List.filter_append, ih]
      cases d : ((T n).fr == p || (T n).dst == p)
      · rw [of_no T p n (by unfold ofP; rw [c, d]; rfl), List.filter_cons, if_neg (by show ¬ ((T n).fr == p || (T n).dst == p) = true; rw [d]; simp)]
        simp
      · rw [of_yes T p n (by unfold ofP; rw [c, d]; rfl), List.filter_cons, if_pos (by show ((T n).fr == p || (T n).dst == p) = true; exact d)]
        simp
theorem row_lent {T : Nat → Gr} (hz : Zr T) (f p : Int) : ∀ n, lentQ (rowG T n) f p = lentN T f p n
  | 0 => rfl
  | n + 1 => by
    have ih := row_lent hz f p n
    unfold lentQ at ih ⊢
    cases c : (T n).is
    · rw [row_no T n c, ih, lent_no T f p n (by rw [hz n c]; rfl)]
    · rw [row_yes T n c, List.filter_append, List.length_append, ih]
      cases d : lentP (T n) f p
      · rw [lent_no T f p n d, List.filter_cons, if_neg (by show ¬ ((T n).fr == f && (T n).pg == p && (T n).tk) = true; unfold lentP at d; revert d; cases (T n).tk <;> cases ((T n).fr == f) <;> cases ((T n).pg == p) <;> simp)]
        simp
      · rw [lent_yes T f p n d, List.filter_cons, if_pos (by show ((T n).fr == f && (T n).pg == p && (T n).tk) = true; unfold lentP at d; revert d; cases (T n).tk <;> cases ((T n).fr == f) <;> cases ((T n).pg == p) <;> simp)]
        simp
theorem row_zero : ∀ n, rowG zT n = []
  | 0 => rfl
  | n + 1 => by rw [row_no zT n rfl, row_zero n]
end Go.Proofs.Ytenfdcjnfgjilaa
