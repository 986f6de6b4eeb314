/- Ticks and turns; rows of integers of the call's own. -/
import Derived.Test.YtcamghafjgjgdaaH8
namespace Go.Proofs.Ytcamghafjgjgdaa
open Go.ChangeShapes Go.WideShapes Go.ChangeAt Go.RowKit Go.Maps
set_option linter.unusedSimpArgs false
set_option linter.unusedVariables false

theorem tck_cases {q t : Int} {L : List Int} (h : 0 < L.length) : (t + 1 < q ∧ tckB ⟨q, t, L⟩ = false ∧ tckS ⟨q, t, L⟩ = ⟨q, t + 1, L⟩) ∨ (¬ t + 1 < q ∧ tckB ⟨q, t, L⟩ = true ∧ tckS ⟨q, t, L⟩ = ⟨q, 0, ylL L⟩) := by
  cases L with
  | nil => simp at h
  | cons x r =>
    by_cases c : t + 1 < q
    · exact Or.inl ⟨c, by simp [tckB, nowB, c], by simp [tckS, c]⟩
    · exact Or.inr ⟨c, by simp [tckB, nowB, c], by simp [tckS, c, yldS, ylL]⟩
/-- a queue behind T ticks, counted from the beginning of the turn of the first of L -/
def St (S : Qu) (L : List Int) (q T c : Nat) : Prop := S = ⟨(q : Int), ((T % q : Nat) : Int), rotN L (T / q)⟩ ∧ c = T / q
theorem dm_next (q T : Nat) (h : 0 < q) : (T % q + 1 < q ∧ (T + 1) % q = T % q + 1 ∧ (T + 1) / q = T / q) ∨ (T % q + 1 = q ∧ (T + 1) % q = 0 ∧ (T + 1) / q = T / q + 1) := by
  have r := Nat.mod_lt T h
  have e := Nat.div_add_mod T q
  by_cases c : T % q + 1 < q
  · refine Or.inl ⟨c, ?_, ?_⟩
    · rw [show T + 1 = (T % q + 1) + q * (T / q) by omega, Nat.add_mul_mod_self_left, Nat.mod_eq_of_lt c]
    · rw [show T + 1 = (T % q + 1) + q * (T / q) by omega, Nat.add_mul_div_left _ _ h, Nat.div_eq_of_lt c]; omega
  · have c' : T % q + 1 = q := by omega
    have e2 : T + 1 = q * (T / q + 1) := by rw [Nat.mul_add]; omega
    refine Or.inr ⟨c', ?_, ?_⟩
    · rw [e2]; exact Nat.mul_mod_right _ _
    · rw [e2, Nat.mul_div_cancel_left _ h]
theorem st_next {S : Qu} {L : List Int} {q T c : Nat} (hq : 0 < q) (hL : 0 < L.length) (h : St S L q T c) : (tckB S = false ∧ St (tckS S) L q (T + 1) c) ∨ (tckB S = true ∧ St (tckS S) L q (T + 1) (c + 1)) := by
  obtain ⟨rfl, rfl⟩ := h
  have hl : 0 < (rotN L (T / q)).length := by rw [rot_len]; exact hL
  rcases tck_cases (q := (q : Int)) (t := ((T % q : Nat) : Int)) hl with ⟨c1, e1, e2⟩ | ⟨c1, e1, e2⟩
  · rcases dm_next q T hq with ⟨d0, d1, d2⟩ | ⟨d0, d1, d2⟩
    · exact Or.inl ⟨e1, by rw [e2, d1, d2]; rfl, by rw [d2]⟩
    · omega
  · rcases dm_next q T hq with ⟨d0, d1, d2⟩ | ⟨d0, d1, d2⟩
    · omega
    · exact Or.inr ⟨e1, by rw [e2, d1, d2, rot_next]; rfl, by rw [d2]⟩
theorem st_zero (L : List Int) (q t : Nat) (h : t < q) : St ⟨(q : Int), (t : Int), L⟩ L q (t + 0) 0 := by
  have e : (t + 0) / q = 0 := Nat.div_eq_of_lt (by omega)
  refine ⟨?_, e.symm⟩
  rw [e, Nat.mod_eq_of_lt (by omega), rot_zero]; rfl
theorem st_all {S : Qu} {L : List Int} {q t c : Nat} (hq : 0 < q) (ht : t < q) (h : St S L q (t + L.length * q) c) : S = ⟨(q : Int), (t : Int), L⟩ ∧ c = L.length := by
  have e1 : (t + L.length * q) / q = L.length := by rw [Nat.add_mul_div_right _ _ hq, Nat.div_eq_of_lt ht]; omega
  have e2 : (t + L.length * q) % q = t := by rw [Nat.add_mul_mod_self_right, Nat.mod_eq_of_lt ht]
  obtain ⟨h1, h2⟩ := h
  rw [e1] at h1 h2
  rw [e2, rot_all] at h1
  exact ⟨h1, h2⟩

/-! ### rows of integers that the call owns -/
def OwnI (w : World) (base : Nat) (v : Value) (L : List Int) : Prop := w.ownsRow base 3 1 v L.length (L.map (Value.int .i64))
theorem own_keep {w w' : World} {base n e s : Nat} {v : Value} {xs : List Value} (h : w.ownsRow base e s v n xs) (hb : ∀ g, base ≤ g → g < w.heap.size → w'.heap[g]? = w.heap[g]?) : w'.ownsRow base e s v n xs := by
  obtain ⟨h1, h2⟩ := h
  refine ⟨h1, ?_⟩
  rcases h2 with h2 | ⟨g', cap', cur, e1, e2, e3, e4⟩
  · exact Or.inl h2
  · have hg' : g' < w.heap.size := (Array.getElem?_eq_some_iff.1 e3).1
    exact Or.inr ⟨g', cap', cur, e1, e2, (hb g' e2 hg').trans e3, e4⟩
theorem OwnI.below {w w' : World} {base : Nat} {v : Value} {L : List Int} (h : OwnI w base v L) (hb : Below w.heap.size w w') : OwnI w' base v L := own_keep h (fun g _ l => hb.block g l)
theorem OwnI.kb {w w' : World} {base b : Nat} {v : Value} {L : List Int} (h : OwnI w base v L) (hb : Kb b w w') (l : b < base) : OwnI w' base v L := own_keep h (fun g lo l => hb.block g l (by omega))
theorem OwnI.base {w : World} {base : Nat} {v : Value} {L : List Int} (h : OwnI w base v L) : ∀ j, v.ownBlock = some j → base ≤ j := by
  obtain ⟨h1, h2⟩ := h
  rcases h2 with ⟨rfl, _⟩ | ⟨g', cap', cur, rfl, e2, e3, e4⟩
  · intro j e; cases e
  · intro j e; cases e; exact e2
theorem OwnI.made (w : World) {base : Nat} (h : base ≤ w.heap.size) : OwnI (w.alloc (.cells #[] 3)) base (.slice (some ⟨w.heap.size, 0, none⟩) 0 0) [] := by
  refine ⟨rfl, Or.inr ⟨w.heap.size, 0, #[], rfl, h, own1 w _, Nat.le_refl _, by unfold maxLen; omega, rfl, rfl⟩⟩
theorem OwnI.none (w : World) {base : Nat} : OwnI w base (.slice none 0 0) [] := ⟨rfl, Or.inl ⟨rfl, rfl⟩⟩
theorem OwnI.next {w : World} {base : Nat} {v : Value} {L M : List Int} (h : w.ownsRow base 3 1 v (L.length + M.length) (L.map (Value.int .i64) ++ M.map (Value.int .i64))) : OwnI w base v (L ++ M) := by
  unfold OwnI
  rw [List.length_append, List.map_append]; exact h
theorem OwnI.one {w : World} {base : Nat} {v : Value} {L : List Int} {x : Int} (h : w.ownsRow base 3 1 v (L.length + 1) (L.map (Value.int .i64) ++ [.int .i64 x])) : OwnI w base v (L ++ [x]) := OwnI.next (M := [x]) h
theorem OwnI.read {w : World} {base : Nat} {v : Value} {L : List Int} (h : OwnI w base v L) : ∃ p c, v = .slice p L.length c ∧ IsI w p L base := by
  have hc := fun g (hg : v.ownBlock = some g) => World.ownsRow.cells (g := g) h hg
  obtain ⟨hl, ⟨hv, h0⟩ | ⟨g, cap, cur, hv, hb, hblk, _⟩⟩ := h
  · exact ⟨Option.none, 0, by rw [hv, h0], fun i hi => absurd hi (by omega)⟩
  · refine ⟨_, _, hv, fun i hi => ⟨g, rfl, hb, blk_lt hblk, ?_⟩⟩
    have := hc g (by rw [hv]; rfl) i (.int .i64 L[i]) (by rw [List.getElem?_map, List.getElem?_eq_getElem hi]; rfl)
    rw [Addr.add_mid, Nat.zero_add] at this; exact this
theorem one_new {w : World} {b : Nat} {x : Int} (h : w.cell? ⟨b, 0, none⟩ = some (.int .i64 x)) : ∀ j u, ([.int .i64 x] : List Value)[j]? = some u → w.cell? ((⟨b, 0, none⟩ : Addr).add j) = some u := by
  intro j u hu
  cases j with
  | zero => cases hu; rw [Addr.add_mid]; exact h
  | succ j => simp at hu
theorem one_one (x : Int) : ∀ u ∈ ([.int .i64 x] : List Value), u.oneCell' = true := by
  intro u hu
  simp at hu
  subst hu; rfl
theorem cells_I {w : World} {a : Addr} {L : List Int} {base : Nat} (h : IsI w (some a) L base) : ∀ j u, (L.map (Value.int .i64))[j]? = some u → w.cell? (a.add j) = some u := by
  intro j u hu
  rw [List.getElem?_map] at hu
  by_cases hj : j < L.length
  · rw [List.getElem?_eq_getElem hj] at hu
    obtain ⟨g, e, _, _, c⟩ := h j hj
    cases e
    rw [Addr.add_mid, Nat.zero_add, c]; exact hu
  · rw [List.getElem?_eq_none (by omega)] at hu; cases hu
theorem all_one (L : List Int) : ∀ u ∈ L.map (Value.int .i64), u.oneCell' = true := by
  intro u hu; obtain ⟨x, _, rfl⟩ := List.mem_map.1 hu; rfl
/-- a row of the call's own is appended to: what stays -/
theorem below_grown {w U a0 : World} {base : Nat} {v : Value} (B : Below w.heap.size w U) (O : ∀ j, v.ownBlock = some j → base ≤ j) (hl : w.heap.size ≤ base) (hg : U.grownBy a0 v.ownBlock) : Below w.heap.size w a0 :=
  B.grown hg B.size (fun j ej => Nat.le_trans hl (O j ej))
theorem own_grown {w U a0 : World} {b base : Nat} {S : Qu} {v : Value} (h : Own w U b S) (O : ∀ j, v.ownBlock = some j → base ≤ j) (hl : b < base) (hg : U.grownBy a0 v.ownBlock) : Own w a0 b S := by
  obtain ⟨h1, h2, h3⟩ := h
  refine ⟨h1.kept (fun l => hg.block b l (fun e => ?_)), below_grown h2 O (by omega) hg, h3⟩
  have := O b e.symm; omega
/-- the slice at p has just these numbers, in a block from lo on and below hi -/
def IsJ (w : World) (p : Option Addr) (L : List Int) (lo hi : Nat) : Prop := ∀ i (h : i < L.length), ∃ g, p = some ⟨g, 0, none⟩ ∧ lo ≤ g ∧ g < hi ∧ g < w.heap.size ∧ w.cell? ⟨g, i, none⟩ = some (.int .i64 L[i])
theorem IsJ.below {w w' : World} {p : Option Addr} {L : List Int} {lo hi : Nat} (h : IsJ w p L lo hi) (hb : Below w.heap.size w w') : IsJ w' p L lo hi := fun i hi => by
  obtain ⟨g, e, l1, l3, l2, c⟩ := h i hi
  exact ⟨g, e, l1, l3, Nat.lt_of_lt_of_le l2 hb.size, (World.cell?_of_block (hb.block g l2)).trans c⟩
theorem IsJ.kb {w w' : World} {p : Option Addr} {L : List Int} {lo hi b : Nat} (h : IsJ w p L lo hi) (hb : Kb b w w') (l : b < lo) : IsJ w' p L lo hi := fun i hi => by
  obtain ⟨g, e, l1, l3, l2, c⟩ := h i hi
  exact ⟨g, e, l1, l3, Nat.lt_of_lt_of_le l2 hb.size, (hb.cell l2 (by omega)).trans c⟩
theorem IsJ.grown {w w' : World} {p : Option Addr} {L : List Int} {lo hi : Nat} {v : Value} (h : IsJ w p L lo hi) (O : ∀ j, v.ownBlock = some j → hi ≤ j) (hg : w.grownBy w' v.ownBlock) : IsJ w' p L lo hi := fun i hi' => by
  obtain ⟨g, e, l1, l3, l2, c⟩ := h i hi'
  refine ⟨g, e, l1, l3, Nat.lt_of_lt_of_le l2 hg.size, (World.cell?_of_block (hg.block g l2 (fun e => ?_))).trans c⟩
  have := O g e.symm; omega
theorem IsJ.i {w : World} {p : Option Addr} {L : List Int} {lo hi : Nat} (h : IsJ w p L lo hi) : IsI w p L lo := fun i hi' => by
  obtain ⟨g, e, l1, l3, l2, c⟩ := h i hi'
  exact ⟨g, e, l1, l2, c⟩
theorem IsI.j {w : World} {p : Option Addr} {L : List Int} {lo : Nat} (h : IsI w p L lo) : IsJ w p L lo w.heap.size := fun i hi' => by
  obtain ⟨g, e, l1, l2, c⟩ := h i hi'
  exact ⟨g, e, l1, l2, l2, c⟩
theorem rem_t {S : Qu} (p : Int) (h : S.t = 0) : (remS S p).t = 0 := by
  unfold remS
  split
  · show (if fstAt S.L p = 0 then 0 else S.t) = 0; split
    · rfl
    · exact h
  · exact h
theorem add_t {S : Qu} (p : Int) (h : S.t = 0) : (addS S p).t = 0 := by
  unfold addS; split; exact h; split; exact h; exact h
end Go.Proofs.Ytcamghafjgjgdaa
