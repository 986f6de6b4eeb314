/- Regions: the document's change, as a list of pieces. -/
import Derived.Test.YtngaodfajihmmaaG14
namespace Go.Proofs.Ytngaodfajihmmaa
open Go.ChangeShapes Go.WideShapes Go.ChangeAt Go.RowKit Go.Maps
set_option linter.unusedSimpArgs false
set_option linter.unusedVariables false

/-- a number into a rising list, once -/
def insU (n : Int) : List Int → List Int
  | [] => [n]
  | x :: r => if n ≤ x then (if n < x then n :: x :: r else x :: r) else x :: insU n r
theorem insU_mem (n y : Int) : ∀ l, y ∈ insU n l ↔ y = n ∨ y ∈ l
  | [] => by simp [insU]
  | x :: r => by
    unfold insU
    by_cases c : n ≤ x
    · rw [if_pos c]
      by_cases d : n < x
      · rw [if_pos d]; simp
      · rw [if_neg d]
        have : n = x := by omega
        subst this
        simp
    · rw [if_neg c, List.mem_cons, insU_mem n y r, List.mem_cons]
      constructor
      · rintro (h | h | h)
        · exact Or.inr (Or.inl h)
        · exact Or.inl h
        · exact Or.inr (Or.inr h)
      · rintro (h | h | h)
        · exact Or.inr (Or.inl h)
        · exact Or.inl h
        · exact Or.inr (Or.inr h)
def Inc (l : List Int) : Prop := l.Pairwise (· < ·)
theorem insU_inc (n : Int) : ∀ l, Inc l → Inc (insU n l)
  | [], _ => by unfold insU Inc; simp
  | x :: r, h => by
    have hx := (List.pairwise_cons.1 h).1
    have hr := (List.pairwise_cons.1 h).2
    unfold insU
    by_cases c : n ≤ x
    · rw [if_pos c]
      by_cases d : n < x
      · rw [if_pos d]
        refine List.pairwise_cons.2 ⟨fun y hy => ?_, h⟩
        rcases List.mem_cons.1 hy with e | e
        · omega
        · have := hx y e; omega
      · rw [if_neg d]; exact h
    · rw [if_neg c]
      refine List.pairwise_cons.2 ⟨fun y hy => ?_, insU_inc n r hr⟩
      rcases (insU_mem n y r).1 hy with e | e
      · omega
      · exact hx y e
def insAll (l o : List Int) : List Int := l.foldl (fun o n => insU n o) o
theorem insAll_mem (y : Int) : ∀ (l o : List Int), y ∈ insAll l o ↔ y ∈ l ∨ y ∈ o
  | [], o => by simp [insAll]
  | n :: l, o => by
    show y ∈ insAll l (insU n o) ↔ _
    rw [insAll_mem y l (insU n o), insU_mem, List.mem_cons]
    constructor
    · rintro (h | h | h)
      · exact Or.inl (Or.inr h)
      · exact Or.inl (Or.inl h)
      · exact Or.inr h
    · rintro ((h | h) | h)
      · exact Or.inr (Or.inl h)
      · exact Or.inl h
      · exact Or.inr (Or.inr h)
theorem insAll_inc : ∀ (l o : List Int), Inc o → Inc (insAll l o)
  | [], o, h => h
  | n :: l, o, h => insAll_inc l (insU n o) (insU_inc n o h)
/-- where something begins or ends -/
def allE (L : List Rg) (f t : Int) : List Int := [f, t] ++ L.flatMap (fun r => [r.fr, r.to])
def endsL (L : List Rg) (f t : Int) : List Int := insAll (allE L f t) []
theorem ends_inc (L : List Rg) (f t : Int) : Inc (endsL L f t) := insAll_inc _ _ List.Pairwise.nil
theorem ends_mem (L : List Rg) (f t y : Int) : y ∈ endsL L f t ↔ (y = f ∨ y = t ∨ ∃ r ∈ L, y = r.fr ∨ y = r.to) := by
  unfold endsL allE
  rw [insAll_mem]
  simp
def Rg.of (a b : Int) (v : Att) : Rg := ⟨a, b, v.1, v.2.1, v.2.2.1, v.2.2.2⟩
/-- the pieces between one end and the next -/
def pcs (D : Int → Option Att) : List Int → List Rg
  | a :: b :: r => (match D a with | some v => [Rg.of a b v] | none => []) ++ pcs D (b :: r)
  | _ => []
def stepF (D : Int → Option Att) : List Int → Int → Option Att
  | a :: b :: r, x => if a ≤ x ∧ x < b then D a else stepF D (b :: r) x
  | _, _ => none
theorem stepF_low (D : Int → Option Att) : ∀ (l : List Int) (a x : Int), Inc (a :: l) → x < a → stepF D (a :: l) x = none
  | [], a, x, _, _ => rfl
  | b :: r, a, x, h, hx => by
    have hb := (List.pairwise_cons.1 h).1 b (by simp)
    unfold stepF
    rw [if_neg (by omega)]
    exact stepF_low D r b x (List.pairwise_cons.1 h).2 (by omega)
def lastE : Int → List Int → Int
  | a, [] => a
  | _, b :: r => lastE b r
theorem pcs_sem (D : Int → Option Att) : ∀ (l : List Int) (a s : Int) (M : List Rg), Inc (a :: l) → Can s M → endL s M ≤ a →
    Can s (preL M (pcs D (a :: l))) ∧ endL s (preL M (pcs D (a :: l))) ≤ lastE a l ∧ ∀ x, atR (preL M (pcs D (a :: l))) x = (atR M x).or (stepF D (a :: l) x)
  | [], a, s, M, h, hc, he => by
    refine ⟨hc, he, fun x => ?_⟩
    show atR M x = (atR M x).or none
    cases atR M x <;> rfl
  | b :: r, a, s, M, h, hc, he => by
    have hb := (List.pairwise_cons.1 h).1 b (by simp)
    have hi := (List.pairwise_cons.1 h).2
    cases e : D a with
    | none =>
      have ep : pcs D (a :: b :: r) = pcs D (b :: r) := by rw [pcs, e]; rfl
      rw [ep]
      obtain ⟨k1, k2, k3⟩ := pcs_sem D r b s M hi hc (by omega)
      refine ⟨k1, k2, fun x => ?_⟩
      rw [k3, stepF]
      by_cases c : a ≤ x ∧ x < b
      · rw [if_pos c, e, stepF_low D r b x hi c.2]
      · rw [if_neg c]
    | some v =>
      have ep : pcs D (a :: b :: r) = Rg.of a b v :: pcs D (b :: r) := by rw [pcs, e]; rfl
      rw [ep]
      obtain ⟨w1, w2, w3⟩ := with_can M s (Rg.of a b v) hc (fun _ => he)
      have wl : (Rg.of a b v).fr < (Rg.of a b v).to := hb
      rw [if_pos wl] at w2
      obtain ⟨k1, k2, k3⟩ := pcs_sem D r b s (withL M (Rg.of a b v)) hi w1 (by rw [w2]; exact Int.le_refl _)
      refine ⟨k1, k2, fun x => ?_⟩
      show atR (preL (withL M (Rg.of a b v)) (pcs D (b :: r))) x = _
      rw [k3, w3, or_assoc4, stepF]
      congr 1
      unfold Rg.pg
      show (if a ≤ x ∧ x < b then some (v.1, v.2.1, v.2.2.1, v.2.2.2) else none).or _ = _
      by_cases c : a ≤ x ∧ x < b
      · rw [if_pos c, if_pos c, e]; rfl
      · rw [if_neg c, if_neg c]; rfl
/-- between one end and the next nothing changes -/
theorem step_is (D : Int → Option Att) : ∀ (l : List Int) (a : Int), Inc (a :: l) → (∀ u x, u ≤ x → a ≤ u → (∀ e ∈ l, ¬ (u < e ∧ e ≤ x)) → D x = D u) → (∀ x, lastE a l ≤ x → D x = none) → ∀ x, a ≤ x → stepF D (a :: l) x = D x
  | [], a, _, _, h2, x, hx => (h2 x hx).symm
  | b :: r, a, h, h1, h2, x, hx => by
    have hb := (List.pairwise_cons.1 h).1 b (by simp)
    have hi := (List.pairwise_cons.1 h).2
    unfold stepF
    by_cases c : a ≤ x ∧ x < b
    · rw [if_pos c]
      refine (h1 a x hx (Int.le_refl _) (fun e he q => ?_)).symm
      rcases List.mem_cons.1 he with k | k
      · omega
      · have := (List.pairwise_cons.1 hi).1 e k; omega
    · rw [if_neg c]
      refine step_is D r b hi (fun u y huy hu hno => h1 u y huy (by omega) (fun e he q => ?_)) h2 x (by omega)
      rcases List.mem_cons.1 he with k | k
      · omega
      · exact hno e k q
theorem last_mem : ∀ (l : List Int) (a : Int), lastE a l ∈ a :: l
  | [], a => by simp [lastE]
  | b :: r, a => by
    unfold lastE
    exact List.mem_cons_of_mem _ (last_mem r b)
theorem last_ge : ∀ (l : List Int) (a : Int), Inc (a :: l) → ∀ e ∈ a :: l, e ≤ lastE a l
  | [], a, _, e, he => by simp at he; subst he; exact Int.le_refl _
  | b :: r, a, h, e, he => by
    have hb := (List.pairwise_cons.1 h).1 b (by simp)
    have hi := (List.pairwise_cons.1 h).2
    unfold lastE
    have lb := last_ge r b hi b (by simp)
    rcases List.mem_cons.1 he with k | k
    · omega
    · exact last_ge r b hi e k
theorem head_le (l : List Int) (a : Int) (h : Inc (a :: l)) : ∀ e ∈ a :: l, a ≤ e := fun e he => by
  rcases List.mem_cons.1 he with k | k
  · omega
  · have := (List.pairwise_cons.1 h).1 e k; omega
theorem at_same : ∀ (L : List Rg) (u x : Int), u ≤ x → (∀ r ∈ L, ¬ (u < r.fr ∧ r.fr ≤ x) ∧ ¬ (u < r.to ∧ r.to ≤ x)) → atR L x = atR L u
  | [], _, _, _, _ => rfl
  | r :: L, u, x, h, hn => by
    have h0 := hn r (by simp)
    have ih := at_same L u x h (fun q hq => hn q (by simp [hq]))
    unfold atR
    by_cases c : r.fr ≤ x ∧ x < r.to
    · rw [if_pos c, if_pos (by omega)]
    · rw [if_neg c, if_neg (by omega), ih]
theorem at_none_low : ∀ (L : List Rg) (x : Int), (∀ r ∈ L, x < r.fr) → atR L x = none
  | [], _, _ => rfl
  | r :: L, x, hn => by
    have h0 := hn r (by simp)
    unfold atR
    rw [if_neg (by omega)]
    exact at_none_low L x (fun q hq => hn q (by simp [hq]))
theorem at_none_high : ∀ (L : List Rg) (x : Int), (∀ r ∈ L, r.to ≤ x) → atR L x = none
  | [], _, _ => rfl
  | r :: L, x, hn => by
    have h0 := hn r (by simp)
    unfold atR
    rw [if_neg (by omega)]
    exact at_none_high L x (fun q hq => hn q (by simp [hq]))
/-- the change, page by page -/
def chD (L : List Rg) (f t : Int) (hh : Option Att → Option Att) (x : Int) : Option Att := if f ≤ x ∧ x < t then hh (atR L x) else atR L x
def changeV (L : List Rg) (f t : Int) (hh : Option Att → Option Att) : List Rg := preL [] (pcs (chD L f t hh) (endsL L f t))
theorem change_sem (L : List Rg) (f t : Int) (hh : Option Att → Option Att) (h0 : ∀ y ∈ endsL L f t, 0 ≤ y) (hft : f < t) :
    Can 0 (changeV L f t hh) ∧ ∀ x, atR (changeV L f t hh) x = chD L f t hh x := by
  have fm : f ∈ endsL L f t := (ends_mem L f t f).2 (Or.inl rfl)
  have tm : t ∈ endsL L f t := (ends_mem L f t t).2 (Or.inr (Or.inl rfl))
  have rm : ∀ r ∈ L, r.fr ∈ endsL L f t ∧ r.to ∈ endsL L f t := fun r hr => ⟨(ends_mem L f t _).2 (Or.inr (Or.inr ⟨r, hr, Or.inl rfl⟩)), (ends_mem L f t _).2 (Or.inr (Or.inr ⟨r, hr, Or.inr rfl⟩))⟩
  have hi := ends_inc L f t
  unfold changeV
  generalize endsL L f t = E at h0 fm tm rm hi
  cases E with
  | nil => cases fm
  | cons a l =>
    obtain ⟨k1, _, k3⟩ := pcs_sem (chD L f t hh) l a 0 [] hi trivial (h0 a (by simp))
    refine ⟨k1, fun x => ?_⟩
    rw [k3]
    show (none : Option Att).or _ = _
    rw [show (none : Option Att).or (stepF (chD L f t hh) (a :: l) x) = stepF (chD L f t hh) (a :: l) x from rfl]
    by_cases c : a ≤ x
    · refine step_is (chD L f t hh) l a hi (fun u y huy hau hno => ?_) (fun y hy => ?_) x c
      · have no : ∀ e ∈ a :: l, ¬ (u < e ∧ e ≤ y) := fun e he q => by
          rcases List.mem_cons.1 he with k | k
          · omega
          · exact hno e k q
        unfold chD
        rw [at_same L u y huy (fun r hr => ⟨no _ (rm r hr).1, no _ (rm r hr).2⟩)]
        have n1 := no f fm
        have n2 := no t tm
        by_cases q : f ≤ y ∧ y < t
        · rw [if_pos q, if_pos (by omega)]
        · rw [if_neg q, if_neg (by omega)]
      · have le := last_ge l a hi
        unfold chD
        have := le t tm
        rw [if_neg (by omega)]
        exact at_none_high L y (fun r hr => by have := le _ (rm r hr).2; omega)
    · have ge := head_le l a hi
      rw [stepF_low _ l a x hi (by omega)]
      unfold chD
      have := ge f fm
      rw [if_neg (by omega)]
      exact (at_none_low L x (fun r hr => by have := ge _ (rm r hr).1; omega)).symm
theorem ends_nonneg {L : List Rg} (g : goodB L = true) {f t : Int} (hr : rightB f t = true) : ∀ y ∈ endsL L f t, 0 ≤ y := fun y hy => by
  have hr' := right_is hr
  rcases (ends_mem L f t y).1 hy with e | e | ⟨r, hm, e⟩
  · omega
  · omega
  · obtain ⟨i, hi, rfl⟩ := List.mem_iff_getElem.1 hm
    have ga := ((good_at g).2 i hi).1
    have eq : L.getD i Rg.zero = L[i] := by simp [List.getD, List.getElem?_eq_getElem hi]
    rw [eq] at ga
    omega
/-- the document's change is the program's -/
theorem changev_add {L : List Rg} (g : goodB L = true) (r : Rg) (hr : rightB r.fr r.to = true) (hz : ¬ 0 < cntR r.fr r.to L) : changeV L r.fr r.to (fun _ => some r.att) = addL L r := by
  have hr' := right_is hr
  obtain ⟨c1, c2⟩ := change_sem L r.fr r.to (fun _ => some r.att) (ends_nonneg g hr) hr'.2.1
  obtain ⟨a1, _, a3⟩ := add_can (good_can g).1 r hr'.1 hr'.2.1 hz
  refine can_eq _ _ 0 0 c1 a1 (fun x => ?_)
  rw [c2, a3]; rfl
theorem changev_cut {L : List Rg} (g : goodB L = true) {f t : Int} (hr : rightB f t = true) : changeV L f t (fun _ => none) = chg (fun _ => Rg.zero) f t L := by
  have hr' := right_is hr
  obtain ⟨c1, c2⟩ := change_sem L f t (fun _ => none) (ends_nonneg g hr) hr'.2.1
  obtain ⟨a1, _, a3⟩ := chg_can (by omega) (sem_cut f t) (good_can g).1
  refine can_eq _ _ 0 0 c1 a1 (fun x => ?_)
  rw [c2, a3]
  unfold chD
  by_cases q : f ≤ x ∧ x < t
  · rw [if_pos q, if_pos q]; cases atR L x <;> rfl
  · rw [if_neg q, if_neg q]
theorem changev_prot {L : List Rg} (g : goodB L = true) {f t : Int} (hr : rightB f t = true) (a b c : Bool) : changeV L f t (fun o => o.bind (fun v => some (a, b, c, v.2.2.2))) = chg (fun r => r.may a b c) f t L := by
  have hr' := right_is hr
  obtain ⟨c1, c2⟩ := change_sem L f t (fun o => o.bind (fun v => some (a, b, c, v.2.2.2))) (ends_nonneg g hr) hr'.2.1
  obtain ⟨a1, _, a3⟩ := prot_can g hr a b c
  refine can_eq _ _ 0 0 c1 a1 (fun x => ?_)
  rw [c2, a3]; rfl
end Go.Proofs.Ytngaodfajihmmaa
