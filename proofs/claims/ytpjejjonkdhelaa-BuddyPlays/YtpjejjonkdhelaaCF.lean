/- The document's buddy: Take. -/
import Derived.Test.YtpjejjonkdhelaaCE
namespace Go.Proofs.Ytpjejjonkdhelaa
open Go.ChangeShapes Go.WideShapes Go.ChangeAt Go.RowKit Go.Maps
set_option linter.unusedSimpArgs false
set_option linter.unusedVariables false
set_option maxRecDepth 8000

/-- a block more, among those that are listed -/
def insP (x : Int × Int) : List (Int × Int) → List (Int × Int)
  | [] => [x]
  | b :: r => if x.1 < b.1 then x :: b :: r else b :: insP x r
theorem insP_mem (x y : Int × Int) : ∀ L, y ∈ insP x L ↔ y = x ∨ y ∈ L
  | [] => by simp [insP]
  | b :: r => by
    unfold insP
    split
    · simp
    · simp only [List.mem_cons, insP_mem x y r]
      constructor
      · rintro (h | h | h)
        · exact Or.inr (Or.inl h)
        · exact Or.inl h
        · exact Or.inr (Or.inr h)
      · rintro (h | h | h)
        · exact Or.inr (Or.inl h)
        · exact Or.inl h
        · exact Or.inr (Or.inr h)
theorem insP_asc (x : Int × Int) : ∀ L : List (Int × Int), Asc (L.map Prod.fst) → (∀ y, y ∈ L → y.1 ≠ x.1) → Asc ((insP x L).map Prod.fst)
  | [], _, _ => List.pairwise_singleton _ _
  | b :: r, a, n => by
    unfold insP
    have a' := List.pairwise_cons.1 a
    split
    · rename_i h
      refine List.pairwise_cons.2 ⟨fun z hz => ?_, a⟩
      rcases List.mem_cons.1 hz with e | e
      · rw [e]; exact h
      · have := a'.1 z e
        omega
    · rename_i h
      refine List.pairwise_cons.2 ⟨fun z hz => ?_, insP_asc x r a'.2 (fun y hy => n y (List.mem_cons_of_mem _ hy))⟩
      obtain ⟨y, hy, rfl⟩ := List.mem_map.1 hz
      rcases (insP_mem x y r).1 hy with e | e
      · subst e
        have := n b (List.mem_cons_self ..)
        omega
      · exact a'.1 y.1 (List.mem_map.2 ⟨y, e, rfl⟩)
theorem insP_len (x : Int × Int) : ∀ L, (insP x L).length = L.length + 1
  | [] => rfl
  | b :: r => by
    unfold insP
    split
    · simp
    · simp [insP_len x r]
theorem insP_split (x : Int × Int) : ∀ (L : List (Int × Int)) (i : Nat), (∀ j (hj : j < L.length), j < i → ¬ x.1 < L[j].1) → insP x L = L.take i ++ insP x (L.drop i)
  | [], i, _ => by simp
  | b :: r, 0, _ => by simp
  | b :: r, i + 1, h => by
    have h0 : ¬ x.1 < b.1 := h 0 (by simp) (by omega)
    have e : insP x (b :: r) = b :: insP x r := by
      show (if x.1 < b.1 then _ else _) = _
      rw [if_neg h0]
    rw [e, List.take_succ_cons, List.drop_succ_cons, List.cons_append]
    congr 1
    exact insP_split x r i (fun j hj l => h (j + 1) (by simp; omega) (by omega))
theorem LG.ins {L : List (Int × Int)} {G : Int → Option Int} (H : LG L G) {a o : Int} (h : G a = none) : LG (insP (a, o) L) (setF G a (some o)) := by
  refine ⟨fun b v => ?_, insP_asc _ L H.2 (fun y hy e => ?_)⟩
  · rw [insP_mem]
    by_cases c : b = a
    · subst c
      rw [set_same]
      constructor
      · rintro (e | e)
        · have := congrArg Prod.snd e; simp at this; rw [this]
        · rw [H.1] at e; rw [h] at e; cases e
      · intro e; left; rw [Option.some.inj e]
    · rw [set_other _ _ _ _ c, ← H.1]
      constructor
      · rintro (e | e)
        · exact absurd (congrArg Prod.fst e) c
        · exact e
      · exact Or.inr
  · have : G y.1 = some y.2 := (H.1 _ _).1 hy
    rw [e] at this
    simp only at this
    rw [h] at this; cases this
theorem LG.filt {L : List (Int × Int)} {G : Int → Option Int} (H : LG L G) (x : Int) : LG (L.filter (fun q => decide (q.1 ≠ x))) (setF G x none) := by
  refine ⟨fun b v => ?_, ?_⟩
  · rw [List.mem_filter, H.1]
    by_cases c : b = x
    · subst c
      rw [set_same]; simp
    · rw [set_other _ _ _ _ c]; simp [c]
  · exact List.Pairwise.sublist (List.Sublist.map _ List.filter_sublist) H.2
theorem took_eq {F : Nat → Prop} {o p f q d p' f' q' d' : Nat} (T : Took F o p f q d) (T' : Took F o p' f' q' d') : p = p' := by
  have e : f = f' := by
    rcases Nat.lt_trichotomy f f' with c | c | c
    · exact absurd T.cn (T'.less f (by have := T.sum; omega) c q)
    · exact c
    · exact absurd T'.cn (T.less f' (by have := T'.sum; omega) c q')
  subst e
  have h1 := T.low q' T'.cn
  have h2 := T'.low q T.cn
  have e2 : q = q' := by omega
  have e3 : d = d' := by have := T.sum; have := T'.sum; omega
  rw [T.at_, T'.at_, e2, e3]
end Go.Proofs.Ytpjejjonkdhelaa
