/- Regions: what a page is behind a change. -/
import Derived.Test.YtngaodfajihmmaaGO
namespace Go.Proofs.Ytngaodfajihmmaa
set_option linter.unusedSimpArgs false
set_option linter.unusedVariables false

theorem find_at (x : Int) : ∀ L : List Rg, atR L x = if (findR L x).2 = true then some (findR L x).1.att else none
  | [] => rfl
  | r :: l => by
    unfold findR
    show (if r.fr ≤ x ∧ x < r.to then some r.att else atR l x) = _
    by_cases c : r.fr ≤ x ∧ x < r.to
    · rw [if_pos c, if_pos c]; rfl
    · rw [if_neg c, if_neg c]; exact find_at x l
theorem cnt_pos (x p q : Int) (hp : p ≤ x) (hq : x < q) : ∀ L : List Rg, atR L x ≠ none → 0 < cntR p q L
  | [], h => absurd rfl h
  | r :: l, h => by
    have n1 := cnt_nn p q l
    have n2 := len_nn r p q
    show 0 < r.len p q + cntR p q l
    by_cases c : r.fr ≤ x ∧ x < r.to
    · have : 0 < r.len p q := by unfold Rg.len; rw [if_pos (by omega)]; omega
      omega
    · have e : atR (r :: l) x = atR l x := by show (if _ then _ else _) = _; rw [if_neg c]
      have := cnt_pos x p q hp hq l (by rw [← e]; exact h)
      omega
theorem cnt_split (x p q : Int) (hp : p ≤ x) (hq : x < q) : ∀ L : List Rg, cntR p q L = cntR p x L + cntR x (x + 1) L + cntR (x + 1) q L
  | [] => rfl
  | r :: l => by
    have i := cnt_split x p q hp hq l
    have : r.len p q = r.len p x + r.len x (x + 1) + r.len (x + 1) q := by
      unfold Rg.len
      split <;> split <;> split <;> split <;> omega
    show r.len p q + cntR p q l = (r.len p x + cntR p x l) + (r.len x (x + 1) + cntR x (x + 1) l) + (r.len (x + 1) q + cntR (x + 1) q l)
    omega
theorem cnt_none (x : Int) : ∀ L : List Rg, atR L x = none → cntR x (x + 1) L = 0
  | [], _ => rfl
  | r :: l, h => by
    have c : ¬ (r.fr ≤ x ∧ x < r.to) := fun c => by
      have e : atR (r :: l) x = some r.att := by show (if _ then _ else _) = _; rw [if_pos c]
      rw [e] at h; cases h
    have e : atR (r :: l) x = atR l x := by show (if _ then _ else _) = _; rw [if_neg c]
    have i := cnt_none x l (by rw [← e]; exact h)
    have : r.len x (x + 1) = 0 := by unfold Rg.len; rw [if_neg (by omega)]
    show r.len x (x + 1) + cntR x (x + 1) l = 0
    omega
theorem cnt_le (p q : Int) : ∀ (L : List Rg) (e : Int), Can e L → cntR p q L ≤ max 0 (q - max p e)
  | [], e, _ => by show (0 : Int) ≤ _; omega
  | r :: l, e, h => by
    have i := cnt_le p q l r.to h.2.1
    have h1 := h.1
    have : r.len p q ≤ max 0 (min r.to q - max r.fr p) := by unfold Rg.len; split <;> omega
    show r.len p q + cntR p q l ≤ _
    omega
theorem cnt_gap {L : List Rg} {e : Int} (h : Can e L) (x p q : Int) (hp : p ≤ x) (hq : x < q) (hx : atR L x = none) : cntR p q L < q - p := by
  have h1 := cnt_split x p q hp hq L
  have h2 := cnt_none x L hx
  have h3 := cnt_le p x L e h
  have h4 := cnt_le (x + 1) q L e h
  omega
def Ac.on (a : Ac) (x : Int) : Prop := a.fr ≤ x ∧ x < a.til
theorem act_add {L : List Rg} (g : goodB L = true) {a : Ac} (h : actE L a = 0) (k : a.how = 1) (x : Int) : atR (actL L a) x = (if a.fr ≤ x ∧ x < a.til then some (a.w, a.u, a.x, a.kd) else atR L x) ∧ (a.fr ≤ x ∧ x < a.til → atR L x = none) := by
  obtain ⟨r, _, c⟩ := act_cases h
  have rr := right_is r
  obtain ⟨c1, c2, c3⟩ := good_can g
  rcases c with ⟨_, z, l, e⟩ | ⟨q, _⟩ | ⟨q, _⟩
  · rw [e]
    obtain ⟨_, _, x3⟩ := add_can c1 a.rg (by show 0 ≤ a.fr; omega) (by show a.fr < a.til; omega) z
    refine ⟨x3 x, fun i => ?_⟩
    cases k : atR L x
    · rfl
    · exact absurd (cnt_pos x a.fr a.til i.1 i.2 L (by rw [k]; simp)) z
  · omega
  · omega
theorem act_cut {L : List Rg} (g : goodB L = true) {a : Ac} (h : actE L a = 0) (k : a.how = 2) (x : Int) : atR (actL L a) x = if a.fr ≤ x ∧ x < a.til then none else atR L x := by
  obtain ⟨r, _, c⟩ := act_cases h
  have rr := right_is r
  obtain ⟨c1, c2, c3⟩ := good_can g
  rcases c with ⟨q, _⟩ | ⟨_, l, e⟩ | ⟨q, _⟩
  · omega
  · rw [e]
    obtain ⟨_, _, x3⟩ := chg_can (by omega) (sem_cut a.fr a.til) c1
    rw [x3 x]
    by_cases i : a.fr ≤ x ∧ x < a.til
    · rw [if_pos i, if_pos i]; cases atR L x <;> rfl
    · rw [if_neg i, if_neg i]
  · omega
theorem protN_full {L : List Rg} {f t : Int} (h : protN L f t = 0) : ¬ cntR f t L < t - f := by
  have c := protN_zero h
  unfold protN at h
  rw [if_pos c] at h
  intro q
  rw [if_pos q] at h; omega
theorem act_prot {L : List Rg} (g : goodB L = true) {a : Ac} (h : actE L a = 0) (k : a.how = 3) (x : Int) : atR (actL L a) x = (if a.fr ≤ x ∧ x < a.til then (atR L x).bind (fun v => some (a.w, a.u, a.x, v.2.2.2)) else atR L x) ∧ (a.fr ≤ x ∧ x < a.til → atR L x ≠ none) := by
  have hp : protN L a.fr a.til = 0 := by
    unfold actE at h
    rw [if_neg (by omega), if_neg (by omega), if_pos k] at h
    exact (errA_zero h).1
  obtain ⟨r, _, c⟩ := act_cases h
  have rr := right_is r
  obtain ⟨c1, c2, c3⟩ := good_can g
  rcases c with ⟨q, _⟩ | ⟨q, _⟩ | ⟨_, l, e⟩
  · omega
  · omega
  · rw [e]
    obtain ⟨_, _, x3⟩ := chg_can (by omega) (sem_prot a.w a.u a.x a.fr a.til) c1
    refine ⟨x3 x, fun i q => ?_⟩
    exact protN_full hp (cnt_gap c1 x a.fr a.til i.1 i.2 q)
theorem act_not {L : List Rg} {a : Ac} (h : actE L a ≠ 0) : actL L a = L := by unfold actL; rw [if_neg h]
end Go.Proofs.Ytngaodfajihmmaa
