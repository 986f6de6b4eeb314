/- Boot maps: the document's Less, as lists. -/
import Derived.Test.YtkgjeemecpigpaaOH
namespace Go.Proofs.Ytkgjeemecpigpaa.Bm
set_option linter.unusedSimpArgs false
set_option linter.unusedVariables false

/-- a number put among rising ones, once -/
def insU (n : Int) : List Int → List Int
  | [] => [n]
  | x :: r => if n ≤ x then (if n < x then n :: x :: r else x :: r) else x :: insU n r
theorem insU_mem (n y : Int) : ∀ l, y ∈ insU n l ↔ y = n ∨ y ∈ l
  | [] => by simp [insU]
  | x :: r => by
    unfold insU
    by_cases c : n ≤ x
    · rw [if_pos c]
      by_cases d : n < x
      · rw [if_pos d]; simp
      · rw [if_neg d]
        have : n = x := by omega
        subst this
        simp
    · rw [if_neg c, List.mem_cons, insU_mem n y r, List.mem_cons]
      constructor
      · rintro (h | h | h)
        · exact Or.inr (Or.inl h)
        · exact Or.inl h
        · exact Or.inr (Or.inr h)
      · rintro (h | h | h)
        · exact Or.inr (Or.inl h)
        · exact Or.inl h
        · exact Or.inr (Or.inr h)
def Inc (l : List Int) : Prop := l.Pairwise (· < ·)
theorem insU_inc (n : Int) : ∀ l, Inc l → Inc (insU n l)
  | [], _ => by unfold insU Inc; simp
  | x :: r, h => by
    have hx := (List.pairwise_cons.1 h).1
    have hr : Inc r := (List.pairwise_cons.1 h).2
    unfold insU
    by_cases c : n ≤ x
    · rw [if_pos c]
      by_cases d : n < x
      · rw [if_pos d]
        refine List.pairwise_cons.2 ⟨fun y hy => ?_, h⟩
        rcases List.mem_cons.1 hy with e | e
        · subst e; exact d
        · have := hx y e; omega
      · rw [if_neg d]; exact h
    · rw [if_neg c]
      refine List.pairwise_cons.2 ⟨fun y hy => ?_, insU_inc n r hr⟩
      rcases (insU_mem n y r).1 hy with e | e
      · omega
      · exact hx y e
def insAll (l o : List Int) : List Int := l.foldl (fun o n => insU n o) o
theorem insAll_mem (y : Int) : ∀ (l o : List Int), y ∈ insAll l o ↔ y ∈ l ∨ y ∈ o
  | [], o => by simp [insAll]
  | n :: l, o => by
    show y ∈ insAll l (insU n o) ↔ _
    rw [insAll_mem y l (insU n o), insU_mem, List.mem_cons]
    constructor
    · rintro (h | h | h)
      · exact Or.inl (Or.inr h)
      · exact Or.inl (Or.inl h)
      · exact Or.inr h
    · rintro ((h | h) | h)
      · exact Or.inr (Or.inl h)
      · exact Or.inl h
      · exact Or.inr (Or.inr h)
theorem insAll_inc : ∀ (l o : List Int), Inc o → Inc (insAll l o)
  | [], o, h => h
  | n :: l, o, h => insAll_inc l (insU n o) (insU_inc n o h)
theorem insU_len (n : Int) : ∀ l, (insU n l).length ≤ l.length + 1
  | [] => by simp [insU]
  | x :: r => by
    unfold insU
    have := insU_len n r
    split
    · split <;> simp
    · simp; omega
theorem insAll_len : ∀ (l o : List Int), (insAll l o).length ≤ o.length + l.length
  | [], o => by simp [insAll]
  | n :: l, o => by
    have h1 := insAll_len l (insU n o)
    have h2 := insU_len n o
    show (insAll l (insU n o)).length ≤ _
    rw [List.length_cons]; omega
theorem insAll_app (l m o : List Int) : insAll (l ++ m) o = insAll m (insAll l o) := by unfold insAll; rw [List.foldl_append]
/-- the ends of ranges -/
def endsR (L : List (Int × Int)) : List Int := L.flatMap (fun r => [r.1, r.2])
theorem endsR_len (L : List (Int × Int)) : (endsR L).length = L.length * 2 := by
  induction L with
  | nil => rfl
  | cons r L ih => unfold endsR at *; rw [List.flatMap_cons, List.length_append, ih, List.length_cons]; simp; omega
theorem endsR_mem {L : List (Int × Int)} {r : Int × Int} (h : r ∈ L) : r.1 ∈ endsR L ∧ r.2 ∈ endsR L := by
  unfold endsR
  exact ⟨List.mem_flatMap.2 ⟨r, h, by simp⟩, List.mem_flatMap.2 ⟨r, h, by simp⟩⟩
def endsV (L A : List (Int × Int)) : List Int := insAll (endsR L ++ endsR A) []
theorem endsV_inc (L A : List (Int × Int)) : Inc (endsV L A) := insAll_inc _ _ List.Pairwise.nil
theorem endsV_len (L A : List (Int × Int)) : (endsV L A).length ≤ L.length * 2 + A.length * 2 := by
  have := insAll_len (endsR L ++ endsR A) []
  rw [List.length_append, endsR_len, endsR_len] at this
  simpa [endsV] using this
theorem endsV_mem {L A : List (Int × Int)} {r : Int × Int} (h : r ∈ L ∨ r ∈ A) : r.1 ∈ endsV L A ∧ r.2 ∈ endsV L A := by
  unfold endsV
  rw [insAll_mem, insAll_mem, List.mem_append, List.mem_append]
  rcases h with h | h
  · have := endsR_mem h; exact ⟨Or.inl (Or.inl this.1), Or.inl (Or.inl this.2)⟩
  · have := endsR_mem h; exact ⟨Or.inl (Or.inr this.1), Or.inl (Or.inr this.2)⟩
/-- between two neighbouring ends nothing changes -/
theorem has_flat {E : List Int} (hE : Inc E) {L : List (Int × Int)} (hL : ∀ r ∈ L, r.1 ∈ E ∧ r.2 ∈ E) {i : Nat} (hi : i + 1 < E.length) {n : Int} (h1 : E[i]'(by omega) ≤ n) (h2 : n < E[i + 1]) : Has L n ↔ Has L (E[i]'(by omega)) := by
  have pw := List.pairwise_iff_getElem.1 hE
  have cmp : ∀ e ∈ E, (e ≤ n ↔ e ≤ E[i]'(by omega)) := fun e he => by
    obtain ⟨j, hj, rfl⟩ := List.getElem_of_mem he
    constructor
    · intro h
      by_cases c : j ≤ i
      · by_cases d : j = i
        · subst d; exact Int.le_refl _
        · have := pw j i hj (by omega) (by omega); omega
      · by_cases d : j = i + 1
        · subst d; omega
        · have := pw (i + 1) j hi hj (by omega); omega
    · intro h; omega
  constructor
  · rintro ⟨r, hr, a, b⟩
    have := hL r hr
    have c1 := cmp r.1 this.1
    have c2 := cmp r.2 this.2
    exact ⟨r, hr, c1.1 a, by omega⟩
  · rintro ⟨r, hr, a, b⟩
    have := hL r hr
    have c1 := cmp r.1 this.1
    have c2 := cmp r.2 this.2
    exact ⟨r, hr, c1.2 a, by omega⟩
open Classical in
/-- the pieces up to the k-th end -/
noncomputable def lessV (L A : List (Int × Int)) (E : List Int) : Nat → List (Int × Int)
  | 0 => []
  | k + 1 => pieceV (lessV L A E k) (E.getD k 0) (E.getD (k + 1) 0) (decide (Has L (E.getD k 0) ∧ ¬ Has A (E.getD k 0)))
theorem getD_is (E : List Int) {k : Nat} (h : k < E.length) : E.getD k 0 = E[k] := by rw [List.getD_eq_getElem?_getD, List.getElem?_eq_getElem h]; rfl
theorem lessV_inv (L A : List (Int × Int)) : ∀ k, k < (endsV L A).length → Can (lessV L A (endsV L A) k) ∧ (∀ q ∈ lessV L A (endsV L A) k, q.2 ≤ (endsV L A).getD k 0) ∧ ∀ n, Has (lessV L A (endsV L A) k) n ↔ (Has L n ∧ ¬ Has A n) ∧ n < (endsV L A).getD k 0
  | 0, h => by
    refine ⟨can_nil, fun q hq => absurd hq List.not_mem_nil, fun n => ⟨fun q => absurd q (has_nil _), fun q => ?_⟩⟩
    obtain ⟨⟨⟨r, hr, a, b⟩, _⟩, c⟩ := q
    have m := (endsV_mem (A := A) (Or.inl hr)).1
    obtain ⟨j, hj, e⟩ := List.getElem_of_mem m
    rw [getD_is _ h] at c
    by_cases z : j = 0
    · subst z; omega
    · have := List.pairwise_iff_getElem.1 (endsV_inc L A) 0 j h hj (by omega)
      omega
  | k + 1, h => by
    have hk : k < (endsV L A).length := by omega
    obtain ⟨i1, i2, i3⟩ := lessV_inv L A k hk
    have lt : (endsV L A).getD k 0 < (endsV L A).getD (k + 1) 0 := by
      rw [getD_is _ hk, getD_is _ h]
      exact List.pairwise_iff_getElem.1 (endsV_inc L A) k (k + 1) hk h (by omega)
    unfold lessV
    refine piece_any i1 i2 lt i3 (fun n h1 h2 => ?_)
    rw [getD_is _ hk] at h1 ⊢
    rw [getD_is _ h] at h2
    rw [has_flat (endsV_inc L A) (fun r hr => endsV_mem (Or.inl hr)) h h1 h2, has_flat (L := A) (endsV_inc L A) (fun r hr => endsV_mem (Or.inr hr)) h h1 h2]
    simp
/-- the whole -/
theorem lessV_all (L A : List (Int × Int)) : Can (lessV L A (endsV L A) ((endsV L A).length - 1)) ∧ ∀ n, Has (lessV L A (endsV L A) ((endsV L A).length - 1)) n ↔ Has L n ∧ ¬ Has A n := by
  by_cases h : (endsV L A).length = 0
  · rw [h]
    refine ⟨can_nil, fun n => ⟨fun q => absurd q (has_nil _), fun q => ?_⟩⟩
    obtain ⟨⟨r, hr, _⟩, _⟩ := q
    have m := (endsV_mem (A := A) (Or.inl hr)).1
    rw [List.eq_nil_of_length_eq_zero h] at m
    exact absurd m List.not_mem_nil
  · obtain ⟨i1, i2, i3⟩ := lessV_inv L A ((endsV L A).length - 1) (by omega)
    refine ⟨i1, fun n => (i3 n).trans ⟨fun q => q.1, fun q => ⟨q, ?_⟩⟩⟩
    obtain ⟨⟨r, hr, a, b⟩, _⟩ := q
    have m := (endsV_mem (A := A) (Or.inl hr)).2
    obtain ⟨j, hj, e⟩ := List.getElem_of_mem m
    rw [getD_is _ (by omega)]
    by_cases z : j = (endsV L A).length - 1
    · subst z; omega
    · have := List.pairwise_iff_getElem.1 (endsV_inc L A) j ((endsV L A).length - 1) hj (by omega) (by omega)
      omega
theorem pieceV_len (out : List (Int × Int)) (a b : Int) (is : Bool) : (pieceV out a b is).length ≤ out.length + 1 := by
  cases is with
  | false => rw [piece_no]; omega
  | true =>
    rcases nil_or_snoc out with e | ⟨M, q, e⟩
    · subst e; rw [piece_first]; simp
    · subst e
      by_cases d : q.2 = a
      · subst d; rw [piece_meet]; simp
      · rw [piece_new _ _ _ _ d]; simp
theorem lessV_len (L A : List (Int × Int)) (E : List Int) : ∀ k, (lessV L A E k).length ≤ k
  | 0 => by simp [lessV]
  | k + 1 => by
    have h2 := lessV_len L A E k
    unfold lessV
    exact Nat.le_trans (pieceV_len _ _ _ _) (by omega)
/-- what the inner loop of Ends holds -/
def stI (n : Int) : List Int × Bool → Int → List Int × Bool := fun s x =>
  let d := if x = n then true else s.2
  if d = false ∧ n < x then (s.1 ++ [n] ++ [x], true) else (s.1 ++ [x], d)
def goI (n : Int) (l : List Int) : List Int × Bool := l.foldl (stI n) ([], false)
theorem stI_done (n : Int) : ∀ (l a : List Int), l.foldl (stI n) (a, true) = (a ++ l, true)
  | [], a => by simp
  | x :: l, a => by
    rw [List.foldl_cons]
    have : stI n (a, true) x = (a ++ [x], true) := by unfold stI; by_cases c : x = n <;> simp [c]
    rw [this, stI_done n l]; simp
theorem goI_is (n : Int) : ∀ (l a : List Int), Inc l → (if (l.foldl (stI n) (a, false)).2 = true then (l.foldl (stI n) (a, false)).1 else (l.foldl (stI n) (a, false)).1 ++ [n]) = a ++ insU n l
  | [], a, _ => by simp [insU]
  | x :: l, a, h => by
    rw [List.foldl_cons]
    have hr : Inc l := (List.pairwise_cons.1 h).2
    rcases Int.lt_trichotomy n x with c | c | c
    · have : stI n (a, false) x = (a ++ [n] ++ [x], true) := by
        have d : ¬ x = n := by omega
        unfold stI
        simp [c, d]
      rw [this, stI_done, if_pos rfl]
      unfold insU
      rw [if_pos (by omega), if_pos c]; simp
    · subst c
      have : stI n (a, false) n = (a ++ [n], true) := by unfold stI; simp
      rw [this, stI_done, if_pos rfl]
      unfold insU
      rw [if_pos (by omega), if_neg (by omega)]; simp
    · have : stI n (a, false) x = (a ++ [x], false) := by
        have d : ¬ x = n := by omega
        have e : ¬ n < x := by omega
        unfold stI
        simp [d, e]
      rw [this, goI_is n l (a ++ [x]) hr]
      rw [show insU n (x :: l) = x :: insU n l by rw [insU, if_neg (by omega)]]
      simp
theorem goI_end (n : Int) (l : List Int) (h : Inc l) : insU n l = if (goI n l).2 = true then (goI n l).1 else (goI n l).1 ++ [n] := by
  have := goI_is n l [] h
  unfold goI
  rw [this]; simp
theorem goI_next (n : Int) (l : List Int) (i : Nat) (h : i < l.length) : goI n (l.take (i + 1)) = stI n (goI n (l.take i)) l[i] := by
  unfold goI
  rw [take_next l i h, List.foldl_append]; rfl
theorem goI_len (n : Int) : ∀ (l : List Int) (s : List Int × Bool), (l.foldl (stI n) s).1.length ≤ s.1.length + 2 * l.length
  | [], s => by simp
  | x :: l, s => by
    rw [List.foldl_cons]
    have h1 := goI_len n l (stI n s x)
    have h2 : (stI n s x).1.length ≤ s.1.length + 2 := by
      unfold stI
      by_cases c : x = n <;> by_cases d : s.2 = false ∧ n < x <;> simp [c, d]
    rw [List.length_cons]; omega
end Go.Proofs.Ytkgjeemecpigpaa.Bm
