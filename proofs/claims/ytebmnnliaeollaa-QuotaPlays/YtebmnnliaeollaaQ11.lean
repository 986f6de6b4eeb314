/- Containers: rows of numbers; when all is given back. -/
import Derived.Test.YtebmnnliaeollaaQ10
namespace Go.Proofs.Ytebmnnliaeollaa
open Go.ChangeShapes Go.WideShapes Go.ChangeAt Go.RowKit Go.Maps
set_option linter.unusedSimpArgs false
set_option linter.unusedVariables false

/-- a row of numbers that lies at base or above -/
def IsRow (w : World) (base : Nat) (p : Option Addr) (L : List Nat) : Prop := ∀ i, i < L.length → ∃ g, p = some ⟨g, 0, none⟩ ∧ base ≤ g ∧ g < w.heap.size ∧ w.cell? ⟨g, i, none⟩ = some (.int .i64 (L.getD i 0 : Nat))
theorem IsRow.below {w w' : World} {base : Nat} {p : Option Addr} {L : List Nat} (h : IsRow w base p L) (hb : Below w.heap.size w w') : IsRow w' base p L := fun i hi => by
  obtain ⟨g, e, l1, l2, c⟩ := h i hi
  exact ⟨g, e, l1, Nat.lt_of_lt_of_le l2 hb.size, (hb.cell (p := ⟨g, i, none⟩) l2).trans c⟩
theorem IsRow.grown {w w' : World} {base b : Nat} {p : Option Addr} {L : List Nat} (h : IsRow w base p L) (hb : w.grownBy w' (some b)) (hl : b < base) : IsRow w' base p L := fun i hi => by
  obtain ⟨g, e, l1, l2, c⟩ := h i hi
  exact ⟨g, e, l1, Nat.lt_of_lt_of_le l2 hb.size, cell_grown hb l2 (by omega) c⟩
theorem row_read {w : World} {base : Nat} {v : Value} {L : List Nat} (h : w.ownsRow base 3 1 v L.length (numV L)) : ∃ p c, v = .slice p L.length c ∧ IsRow w base p L := by
  obtain ⟨h1, h2 | ⟨g, cap, cur, e1, e2, e3, e4, e5, e6, e7⟩⟩ := h
  · refine ⟨none, 0, by rw [h2.1, h2.2], fun i hi => ?_⟩
    rw [h2.2] at hi; exact absurd hi (Nat.not_lt_zero _)
  · refine ⟨_, cap, e1, fun i hi => ⟨g, rfl, e2, (Array.getElem?_eq_some_iff.1 e3).1, ?_⟩⟩
    rw [Go.Joins.cell_of_block e3 i]
    have : (cur.toList.take (L.length * 1))[i]? = (numV L)[i]? := by rw [e7]
    rw [List.getElem?_take, if_pos (by omega), Array.getElem?_toList] at this
    rw [this]
    unfold numV
    rw [List.getElem?_map, List.getElem?_eq_getElem hi]
    simp [List.getD, List.getElem?_eq_getElem hi]
theorem IsRow.weak {w : World} {base base' : Nat} {p : Option Addr} {L : List Nat} (h : IsRow w base p L) (hb : base' ≤ base) : IsRow w base' p L := fun i hi => by
  obtain ⟨g, e, l1, l2, c⟩ := h i hi
  exact ⟨g, e, by omega, l2, c⟩
theorem live_call (b : Nat) (T : Nat → Nd) (w : World) (h : IsTree w b T) :
    Calls Try.prog 7 #[.pointer (some ⟨b, 0, none⟩)] w fun e w' => (∃ p c, e = .returned (.slice p (liveL T 64).length c) ∧ IsRow w' w.heap.size p (liveL T 64)) ∧ Below w.heap.size w w' :=
  (live_any b T w h).mono fun e w' ⟨v, h1, h2, h3⟩ => by
    obtain ⟨p, c, rfl, h4⟩ := row_read h2
    exact ⟨⟨p, c, h1, h4⟩, h3⟩
theorem mem_live (T : Nat → Nd) (j : Nat) : ∀ n, j ∈ liveL T n ↔ j < n ∧ (T j).live = true
  | 0 => by simp [liveL]
  | n + 1 => by
    rw [liveL, List.mem_append, mem_live T j n]
    by_cases c : (T n).live = true
    · rw [if_pos c, List.mem_singleton]
      constructor
      · rintro (h | h)
        · exact ⟨by omega, h.2⟩
        · subst h; exact ⟨by omega, c⟩
      · rintro ⟨h1, h2⟩
        by_cases d : j = n
        · exact Or.inr d
        · exact Or.inl ⟨by omega, h2⟩
    · rw [if_neg c]
      constructor
      · rintro (h | h)
        · exact ⟨by omega, h.2⟩
        · cases h
      · rintro ⟨h1, h2⟩
        by_cases d : j = n
        · subst d; exact absurd h2 c
        · exact Or.inl ⟨by omega, h2⟩
theorem live_get (T : Nat → Nd) (i : Nat) (hi : i < (liveL T 64).length) : (liveL T 64).getD i 0 < 64 ∧ (T ((liveL T 64).getD i 0)).live = true := by
  have : (liveL T 64).getD i 0 ∈ liveL T 64 := by
    rw [List.getD, List.getElem?_eq_getElem hi]; exact List.getElem_mem hi
  exact (mem_live T _ 64).1 this
theorem live_index (T : Nat → Nd) (k : Nat) (hk : k < 64) (h : (T k).live = true) : ∃ i, i < (liveL T 64).length ∧ (liveL T 64).getD i 0 = k := by
  obtain ⟨i, hi, e⟩ := List.mem_iff_getElem.1 ((mem_live T k 64).2 ⟨hk, h⟩)
  exact ⟨i, hi, by rw [List.getD, List.getElem?_eq_getElem hi]; exact e⟩
def one (T : Nat → Nd) (j : Nat) : Int := if (T j).live then 1 else 0
def cnt (T : Nat → Nd) : Int := sm (one T) 64
theorem live_count (T : Nat → Nd) : ∀ n, ((liveL T n).length : Int) = sm (one T) n
  | 0 => rfl
  | n + 1 => by
    rw [liveL, sm, ← live_count T n, List.length_append]
    unfold one
    by_cases c : (T n).live = true
    · rw [if_pos c, if_pos c]; simp
    · rw [if_neg c, if_neg c]; simp
/-- what is credited -/
theorem credit_all {T : Nat → Nd} {root : Int} (g : Good T root) (k : Nat) (hk : k < 64) (hl : (T k).live = true) : creditN T k (T k).used = 0 ∧ creditT T k (T k).used = putT T k ((T k).plus (-(T k).used)) := by
  have c : creditN T k (T k).used = 0 := by
    unfold creditN
    rw [get_nat T k hk, if_neg (by rw [hl]; simp), if_neg (by have := g.nn k hk; omega), if_neg (by omega)]
  exact ⟨c, by unfold creditT; rw [if_pos c, Int.toNat_natCast]⟩
/-- some are gone, the others are as they were -/
def Sub (T0 T : Nat → Nd) : Prop := ∀ j, j < 64 → (T j).live = true → (T0 j).live = true ∧ (T j).par = (T0 j).par
def NoUse (T : Nat → Nd) : Prop := ∀ j, j < 64 → (T j).used = 0
theorem Sub.refl (T : Nat → Nd) : Sub T T := fun j _ h => ⟨h, rfl⟩
theorem Sub.trans {A B C : Nat → Nd} (h : Sub A B) (k : Sub B C) : Sub A C := fun j hj hl => by
  obtain ⟨a, b⟩ := k j hj hl
  obtain ⟨c, d⟩ := h j hj a
  exact ⟨c, b.trans d⟩
theorem end_sub {T : Nat → Nd} {root : Int} (g : Good T root) (i : Int) : Sub T (endT T i) ∧ (NoUse T → NoUse (endT T i)) := by
  unfold endT
  by_cases c : endN T i = 0
  · rw [if_pos c]
    obtain ⟨m1, m2, m3, m4⟩ := end_zero c
    obtain ⟨k, rfl, hk, hg⟩ := live_in m1
    rw [Int.toNat_natCast]
    obtain ⟨p, hp⟩ : ∃ p, (T k).par.toNat = p := ⟨_, rfl⟩
    rw [hp]
    constructor
    · intro j hj hl
      by_cases a : j = k
      · subst a; rw [put_same] at hl; simp [Nd.zero] at hl
      · rw [put_other _ _ _ _ a] at hl ⊢
        by_cases b : j = p
        · subst b; rw [put_same] at hl ⊢; exact ⟨hl, rfl⟩
        · rw [put_other _ _ _ _ b] at hl ⊢; exact ⟨hl, rfl⟩
    · intro z j hj
      by_cases a : j = k
      · subst a; rw [put_same]; rfl
      · rw [put_other _ _ _ _ a]
        by_cases b : j = p
        · subst b; rw [put_same]; exact z j hj
        · rw [put_other _ _ _ _ b]; exact z j hj
  · rw [if_neg c]; exact ⟨Sub.refl T, fun z => z⟩
/-- one that has no children, and nothing, goes -/
theorem end_gone {T0 T : Nat → Nd} (s : Sub T0 T) (z : NoUse T) (k : Nat) (hk : k < 64) (h0 : k ≠ 0) (leaf : ∀ j, j < 64 → (T0 j).live = true → (T0 j).par ≠ k) : (endT T k k).live = false := by
  by_cases hl : (T k).live = true
  · have c : endN T k = 0 := by
      unfold endN
      rw [get_nat T k hk, if_neg (by simp [hl]; omega), if_neg]
      rintro (a | a)
      · rw [z k hk] at a; omega
      · obtain ⟨j, b1, b2, b3⟩ := (has_iff T k).1 a
        obtain ⟨d1, d2⟩ := s j b1 b2
        exact leaf j b1 d1 (d2.symm.trans b3)
    unfold endT
    rw [if_pos c, Int.toNat_natCast, put_same]; rfl
  · have hl' : (T k).live = false := by simpa using hl
    have c : endN T k = 5 := by unfold endN; rw [get_nat T k hk, if_pos (Or.inl hl')]
    unfold endT
    rw [if_neg (by rw [c]; decide)]; exact hl'
/-- the greatest by a rank -/
theorem greatest (P : Nat → Prop) (d : Nat → Nat) : ∀ n, (∃ k, k < n ∧ P k) → ∃ k, k < n ∧ P k ∧ ∀ j, j < n → P j → d j ≤ d k
  | 0, h => by obtain ⟨k, a, _⟩ := h; omega
  | n + 1, h => by
    by_cases c : ∃ k, k < n ∧ P k
    · obtain ⟨k, a1, a2, a3⟩ := greatest P d n c
      by_cases e : P n ∧ d k < d n
      · refine ⟨n, by omega, e.1, fun j hj hp => ?_⟩
        by_cases b : j = n
        · subst b; omega
        · have := a3 j (by omega) hp; omega
      · refine ⟨k, by omega, a2, fun j hj hp => ?_⟩
        by_cases b : j = n
        · subst b
          by_cases q : d k < d j
          · exact absurd ⟨hp, q⟩ e
          · omega
        · exact a3 j (by omega) hp
    · obtain ⟨k, a, b⟩ := h
      have : k = n := by
        by_cases q : k = n
        · exact q
        · exact absurd ⟨k, by omega, b⟩ c
      subst this
      refine ⟨k, by omega, b, fun j hj hp => ?_⟩
      by_cases q : j = k
      · subst q; omega
      · exact absurd ⟨j, by omega, hp⟩ c
theorem leaf_there {T : Nat → Nd} {root : Int} (g : Good T root) (h : ∃ k, k < 64 ∧ k ≠ 0 ∧ (T k).live = true) : ∃ k, k < 64 ∧ k ≠ 0 ∧ (T k).live = true ∧ ∀ j, j < 64 → (T j).live = true → (T j).par ≠ k := by
  obtain ⟨d, hd⟩ := g.rank
  obtain ⟨k, a1, a2, a3⟩ := greatest (fun k => k ≠ 0 ∧ (T k).live = true) d 64 h
  refine ⟨k, a1, a2.1, a2.2, fun j hj hl e => ?_⟩
  by_cases c : j = 0
  · subst c; rw [g.par0] at e; omega
  · have h1 := hd j hj c hl
    have h2 := a3 j hj ⟨c, hl⟩
    rw [e, Int.toNat_natCast] at h1
    omega
/-- how many there may still be behind a number of rounds -/
def Left (T : Nat → Nd) (r : Nat) : Prop := cnt T ≤ 64 - (r : Int) ∨ ∀ k, k < 64 → k ≠ 0 → (T k).live = false
theorem one_le (T : Nat → Nd) (j : Nat) : one T j ≤ 1 := by unfold one; split <;> omega
theorem left_start (T : Nat → Nd) : Left T 0 := by
  left
  have : sm (one T) 64 ≤ sm (fun _ => 1) 64 := sm_le 64 (fun j _ => one_le T j)
  have e : sm (fun _ => (1 : Int)) 64 = 64 := by decide
  unfold cnt
  omega
theorem one_sub {A B : Nat → Nd} (s : Sub A B) (j : Nat) (hj : j < 64) : one B j ≤ one A j := by
  unfold one
  by_cases c : (B j).live = true
  · rw [if_pos c, if_pos (s j hj c).1]; omega
  · rw [if_neg c]; split <;> omega
theorem left_next {A B : Nat → Nd} {r : Nat} (s : Sub A B) (h : Left A r) (k : Nat) (hk : k < 64) (ha : (A k).live = true) (hb : (B k).live = false) : Left B (r + 1) := by
  have hs : sm (one B) 64 ≤ sm (fun j => if j = k then 0 else one A j) 64 := sm_le 64 (fun j hj => by
    by_cases c : j = k
    · subst c; rw [if_pos rfl]; unfold one; rw [hb]; simp
    · rw [if_neg c]; exact one_sub s j hj)
  have hu := sm_upd (f := fun j => if j = k then 0 else one A j) (g := one A) k 64 hk (fun j _ c => by rw [if_neg c])
  have e1 : one A k = 1 := by unfold one; rw [if_pos ha]
  simp only [if_true] at hu
  rcases h with h | h
  · left; unfold cnt at h ⊢; omega
  · by_cases c : k = 0
    · right; intro j hj h0
      by_cases d : (B j).live = true
      · have := (s j hj d).1; rw [h j hj h0] at this; exact absurd this (by simp)
      · simpa using d
    · rw [h k hk c] at ha; simp at ha
theorem left_stay {A B : Nat → Nd} {r : Nat} (s : Sub A B) (h : ∀ k, k < 64 → k ≠ 0 → (A k).live = false) : Left B r := by
  right; intro j hj h0
  by_cases d : (B j).live = true
  · have := (s j hj d).1; rw [h j hj h0] at this; exact absurd this (by simp)
  · simpa using d
theorem left_end {T : Nat → Nd} {root : Int} (g : Good T root) (z : NoUse T) (h : Left T 64) : (liveL T 64).length = 1 ∧ (getN T 0).room = root ∧ endN T 0 = 5 := by
  have h1 : one T 0 = 1 := by unfold one; rw [if_pos g.live0]
  have alone : ∀ k, k < 64 → k ≠ 0 → (T k).live = false := by
    rcases h with h | h
    · exfalso
      have hu := sm_upd (f := one T) (g := fun j => if j = 0 then 0 else one T j) 0 64 (by omega) (fun j _ c => by rw [if_neg c])
      have hn : 0 ≤ sm (fun j => if j = 0 then 0 else one T j) 64 := sm_nonneg 64 (fun j _ => by split <;> (try unfold one) <;> (try split) <;> omega)
      simp only [if_true] at hu
      unfold cnt at h
      omega
    · exact h
  have hc : cnt T = 1 := by
    have hu := sm_upd (f := one T) (g := fun _ => 0) 0 64 (by omega) (fun j hj c => by unfold one; rw [alone j hj c]; rfl)
    rw [sm_zero 64 (fun _ _ => rfl)] at hu
    unfold cnt; omega
  refine ⟨by have := live_count T 64; unfold cnt at hc; omega, ?_, by unfold endN; rw [if_pos (Or.inr rfl)]⟩
  rw [show (0 : Int) = ((0 : Nat) : Int) from rfl, get_nat T 0 (by omega)]
  unfold Nd.room
  have hl : (T 0).lent = 0 := by
    rw [g.lent 0 (by omega)]
    exact sm_zero 64 (fun j hj => by
      by_cases c : j = 0
      · subst c; exact part_no (by rw [g.par0]; omega)
      · exact part_dead (alone j hj c))
  rw [hl, z 0 (by omega), g.quota0]; omega
end Go.Proofs.Ytebmnnliaeollaa
