/- Regions: good lists; what a change makes of pages and of their number. -/
import Derived.Test.YtngaodfajihmmaaGM
namespace Go.Proofs.Ytngaodfajihmmaa
set_option linter.unusedSimpArgs false
set_option linter.unusedVariables false

theorem getD_succ (r : Rg) (l : List Rg) (i : Nat) : (r :: l).getD (i + 1) Rg.zero = l.getD i Rg.zero := by simp [List.getD]
theorem getD_zero (r : Rg) (l : List Rg) : (r :: l).getD 0 Rg.zero = r := rfl
theorem can_of (T : Int) : ∀ (L : List Rg) (e : Int), (0 < L.length → e ≤ (L.getD 0 Rg.zero).fr) → (∀ i, i < L.length → ((L.getD i Rg.zero).fr < (L.getD i Rg.zero).to ∧ (L.getD i Rg.zero).to ≤ T) ∧ (i + 1 < L.length → (L.getD i Rg.zero).to ≤ (L.getD (i + 1) Rg.zero).fr ∧ (L.getD i Rg.zero).joins (L.getD (i + 1) Rg.zero) = false)) → e ≤ T → Can e L ∧ endL e L ≤ T
  | [], e, _, _, he => ⟨trivial, he⟩
  | r :: l, e, h0, h, he => by
    have a := h 0 (by simp)
    rw [getD_zero, getD_succ] at a
    have z := h0 (by simp)
    rw [getD_zero] at z
    obtain ⟨i1, i2⟩ := can_of T l r.to (fun q => (a.2 (by simpa using q)).1) (fun i hi => by
      have := h (i + 1) (by simpa using hi)
      rw [getD_succ, getD_succ] at this
      exact ⟨this.1, fun q => this.2 (by simpa using q)⟩) a.1.2
    refine ⟨⟨⟨z, a.1.1⟩, i1, fun c hc => ?_⟩, i2⟩
    cases l with
    | nil => simp at hc
    | cons d l' =>
      have : c = d := by simpa using hc.symm
      subst this
      exact (a.2 (by simp)).2
theorem good_can {L : List Rg} (h : goodB L = true) : Can 0 L ∧ endL 0 L ≤ 34359738368 ∧ L.length ≤ 64 := by
  obtain ⟨h1, h2⟩ := good_at h
  obtain ⟨a, b⟩ := can_of 34359738368 L 0 (fun q => ((h2 0 q).1).1) (fun i hi => ⟨⟨(h2 i hi).1.2.1, (h2 i hi).1.2.2⟩, (h2 i hi).2⟩) (by omega)
  exact ⟨a, b, h1⟩
theorem can_idx : ∀ (L : List Rg) (e : Int), Can e L → ∀ i, i < L.length → (L.getD i Rg.zero).fr < (L.getD i Rg.zero).to ∧ (L.getD i Rg.zero).to ≤ endL e L ∧ (i = 0 → e ≤ (L.getD i Rg.zero).fr) ∧ (i + 1 < L.length → (L.getD i Rg.zero).to ≤ (L.getD (i + 1) Rg.zero).fr ∧ (L.getD i Rg.zero).joins (L.getD (i + 1) Rg.zero) = false)
  | [], _, _, i, hi => absurd hi (Nat.not_lt_zero _)
  | r :: l, e, h, 0, _ => by
    rw [getD_zero, getD_succ]
    refine ⟨h.1.2, can_end l r.to h.2.1, fun _ => h.1.1, fun q => ?_⟩
    cases l with
    | nil => simp at q
    | cons d l' => exact ⟨h.2.1.1.1, h.2.2 d rfl⟩
  | r :: l, e, h, i + 1, hi => by
    have := can_idx l r.to h.2.1 i (by simpa using hi)
    rw [getD_succ, getD_succ]
    exact ⟨this.1, this.2.1, fun q => by omega, fun q => this.2.2.2 (by simpa using q)⟩
theorem can_good {L : List Rg} (h : Can 0 L) (h1 : endL 0 L ≤ 34359738368) (h2 : L.length ≤ 64) : goodB L = true := by
  unfold goodB
  rw [Bool.and_eq_true, allB_iff]
  refine ⟨by simpa using h2, fun i hi => ?_⟩
  have a := can_idx L 0 h i hi
  unfold okAt
  cases i with
  | zero =>
    have z := a.2.2.1 rfl
    have e0 : endAt L 0 = 0 := rfl
    have j0 : jnAt L 0 = false := rfl
    rw [e0, j0]
    generalize L.getD 0 Rg.zero = r at a z
    unfold okR
    simp
    omega
  | succ n =>
    have b := (can_idx L 0 h n (by omega)).2.2.2 hi
    have e0 : endAt L (n + 1) = (L.getD n Rg.zero).to := rfl
    have j0 : jnAt L (n + 1) = (L.getD n Rg.zero).joins (L.getD (n + 1) Rg.zero) := rfl
    rw [e0, j0, b.2]
    generalize L.getD n Rg.zero = q at b
    generalize L.getD (n + 1) Rg.zero = r at a b
    unfold okR
    simp
    omega
theorem can_split : ∀ (A B : List Rg) (e : Int), Can e (A ++ B) → Can e A ∧ Can (endL e A) B
  | [], B, e, h => ⟨trivial, h⟩
  | r :: l, B, e, h => by
    obtain ⟨a, b⟩ := can_split l B r.to h.2.1
    refine ⟨⟨h.1, a, fun c hc => h.2.2 c ?_⟩, b⟩
    cases l with
    | nil => simp at hc
    | cons d l' => simpa using hc
/-- a change within pages: gg says what a page becomes -/
def SemG (G : Rg → Rg) (gg : Att → Option Att) (f t : Int) : Prop := ∀ r : Rg, ((G (r.mid f t)).fr < (G (r.mid f t)).to → (G (r.mid f t)).fr = max r.fr f ∧ (G (r.mid f t)).to = min r.to t) ∧ ∀ x, (G (r.mid f t)).pg x = if max r.fr f ≤ x ∧ x < min r.to t then gg r.att else none
theorem sem_cut (f t : Int) : SemG (fun _ => Rg.zero) (fun _ => none) f t := fun r => ⟨fun h => by unfold Rg.zero at h; simp at h, fun x => by
  have : Rg.zero.pg x = none := by unfold Rg.pg Rg.zero; simp only; rw [if_neg (by omega)]
  rw [this]; split <;> rfl⟩
theorem sem_prot (a b c : Bool) (f t : Int) : SemG (fun r => r.may a b c) (fun v => some (a, b, c, v.2.2.2)) f t := fun r => ⟨fun _ => ⟨rfl, rfl⟩, fun x => rfl⟩
theorem part_can {G : Rg → Rg} {gg : Att → Option Att} {f t : Int} (hft : f ≤ t) (hG : SemG G gg f t) (M : List Rg) (e : Int) (r : Rg) (h : Can e M) (h1 : endL e M ≤ r.fr) (h2 : r.fr < r.to) :
    Can e (part G f t M r) ∧ endL e (part G f t M r) ≤ r.to ∧ (∀ x, atR (part G f t M r) x = (atR M x).or (if r.fr ≤ x ∧ x < r.to then (if f ≤ x ∧ x < t then gg r.att else some r.att) else none)) ∧ ∀ p q, cntR p q (part G f t M r) = cntR p q (withL (withL (withL M (r.upto (min r.to f))) (G (r.mid f t))) (r.from (max r.fr t))) := by
  obtain ⟨g1, g2⟩ := hG r
  obtain ⟨a1, a2, a3⟩ := with_can M e (r.upto (min r.to f)) h (fun _ => h1)
  have a2' : endL e (withL M (r.upto (min r.to f))) = if r.fr < min r.to f then min r.to f else endL e M := a2
  have ea : endL e (withL M (r.upto (min r.to f))) ≤ max r.fr f ∧ endL e (withL M (r.upto (min r.to f))) ≤ r.to := by rw [a2']; split <;> omega
  obtain ⟨b1, b2, b3⟩ := with_can (withL M (r.upto (min r.to f))) e (G (r.mid f t)) a1 (fun q => by have := g1 q; omega)
  have eb : endL e (withL (withL M (r.upto (min r.to f))) (G (r.mid f t))) ≤ max r.fr t ∧ endL e (withL (withL M (r.upto (min r.to f))) (G (r.mid f t))) ≤ r.to := by
    rw [b2]
    by_cases q : (G (r.mid f t)).fr < (G (r.mid f t)).to
    · have := g1 q; rw [if_pos q]; omega
    · rw [if_neg q]; omega
  obtain ⟨c1, c2, c3⟩ := with_can _ e (r.from (max r.fr t)) b1 (fun _ => eb.1)
  refine ⟨c1, ?_, fun x => ?_, fun _ _ => rfl⟩
  · show endL e (withL _ _) ≤ _
    rw [c2]
    have : (r.from (max r.fr t)).to = r.to := rfl
    split <;> omega
  · show atR (withL _ _) x = _
    rw [c3, b3, a3, g2, or_assoc4, or_assoc4]
    congr 1
    have p1 : (r.upto (min r.to f)).pg x = if r.fr ≤ x ∧ x < min r.to f then some r.att else none := rfl
    have p3 : (r.from (max r.fr t)).pg x = if max r.fr t ≤ x ∧ x < r.to then some r.att else none := rfl
    rw [p1, p3]
    by_cases k0 : r.fr ≤ x ∧ x < r.to
    · rw [if_pos k0]
      by_cases k1 : f ≤ x
      · by_cases k2 : x < t
        · rw [if_pos (show f ≤ x ∧ x < t from ⟨k1, k2⟩), if_neg (by omega), if_pos (by omega), if_neg (by omega)]
          cases gg r.att <;> rfl
        · rw [if_neg (show ¬ (f ≤ x ∧ x < t) by omega), if_neg (by omega), if_neg (by omega), if_pos (by omega)]; rfl
      · rw [if_neg (show ¬ (f ≤ x ∧ x < t) by omega), if_pos (by omega)]; rfl
    · rw [if_neg k0, if_neg (by omega), if_neg (by omega), if_neg (by omega)]; rfl
theorem chg_sem {G : Rg → Rg} {gg : Att → Option Att} {f t : Int} (hft : f ≤ t) (hG : SemG G gg f t) : ∀ (L M : List Rg) (e e' : Int), Can e M → Can e' L → endL e M ≤ e' → Can e (L.foldl (part G f t) M) ∧ endL e (L.foldl (part G f t) M) ≤ endL e' L ∧ ∀ x, atR (L.foldl (part G f t) M) x = (atR M x).or (if f ≤ x ∧ x < t then (atR L x).bind gg else atR L x)
  | [], M, e, e', h, _, he => ⟨h, he, fun x => by
      show atR M x = (atR M x).or (if f ≤ x ∧ x < t then (none : Option Att).bind gg else none)
      have : (if f ≤ x ∧ x < t then (none : Option Att).bind gg else none) = none := by split <;> rfl
      rw [this]; simp⟩
  | r :: l, M, e, e', h, hl, he => by
    obtain ⟨l1, l2, l3⟩ := hl
    obtain ⟨a1, a2, a3, _⟩ := part_can hft hG M e r h (by omega) l1.2
    obtain ⟨b1, b2, b3⟩ := chg_sem hft hG l (part G f t M r) e r.to a1 l2 a2
    refine ⟨b1, b2, fun x => ?_⟩
    show atR (l.foldl (part G f t) (part G f t M r)) x = _
    rw [b3, a3, or_assoc4]
    congr 1
    have e1 : atR (r :: l) x = if r.fr ≤ x ∧ x < r.to then some r.att else atR l x := rfl
    rw [e1]
    by_cases c : r.fr ≤ x ∧ x < r.to
    · rw [if_pos c, if_pos c, at_low l r.to x l2 c.2]
      by_cases d : f ≤ x ∧ x < t
      · rw [if_pos d, if_pos d, if_pos d]
        show (gg r.att).or none = gg r.att
        cases gg r.att <;> rfl
      · rw [if_neg d, if_neg d, if_neg d]; rfl
    · rw [if_neg c, if_neg c]; rfl
theorem chg_can {G : Rg → Rg} {gg : Att → Option Att} {f t : Int} (hft : f ≤ t) (hG : SemG G gg f t) {L : List Rg} (h : Can 0 L) : Can 0 (chg G f t L) ∧ endL 0 (chg G f t L) ≤ endL 0 L ∧ ∀ x, atR (chg G f t L) x = if f ≤ x ∧ x < t then (atR L x).bind gg else atR L x := by
  obtain ⟨a, b, c⟩ := chg_sem hft hG L [] 0 0 trivial h (Int.le_refl _)
  exact ⟨a, b, fun x => by rw [show chg G f t L = L.foldl (part G f t) [] from rfl, c]; rfl⟩
/-- the regions ahead, and those behind -/
theorem ahead_take (f : Int) : ∀ L : List Rg, L.take (aheadN L f) = L.takeWhile (lowR f) ∧ L.drop (aheadN L f) = L.dropWhile (lowR f)
  | [] => ⟨rfl, rfl⟩
  | r :: l => by
    obtain ⟨a, b⟩ := ahead_take f l
    unfold aheadN at a b ⊢
    by_cases c : lowR f r = true
    · rw [List.takeWhile_cons_of_pos c, List.dropWhile_cons_of_pos c, List.length_cons, List.take_succ_cons, List.drop_succ_cons, a, b]; exact ⟨rfl, rfl⟩
    · rw [List.takeWhile_cons_of_neg c, List.dropWhile_cons_of_neg c]; exact ⟨rfl, rfl⟩
theorem end_tw (f : Int) : ∀ (L : List Rg) (e : Int), e ≤ f → endL e (L.takeWhile (lowR f)) ≤ f
  | [], e, h => h
  | r :: l, e, h => by
    by_cases c : lowR f r = true
    · rw [List.takeWhile_cons_of_pos c]
      exact end_tw f l r.to (by unfold lowR at c; simpa using c)
    · rw [List.takeWhile_cons_of_neg c]; exact h
theorem len_nn (r : Rg) (p q : Int) : 0 ≤ r.len p q := by unfold Rg.len; split <;> omega
theorem cnt_nn (p q : Int) : ∀ L : List Rg, 0 ≤ cntR p q L
  | [] => Int.le_refl _
  | r :: l => by have := cnt_nn p q l; have := len_nn r p q; show 0 ≤ r.len p q + cntR p q l; omega
theorem drop_head (f : Int) (c : Rg) (B : List Rg) : ∀ L : List Rg, L.dropWhile (lowR f) = c :: B → f < c.to
  | [], h => by simp at h
  | r :: l, h => by
    by_cases k : lowR f r = true
    · rw [List.dropWhile_cons_of_pos k] at h; exact drop_head f c B l h
    · rw [List.dropWhile_cons_of_neg k] at h
      have : r = c := (List.cons.inj h).1
      subst this
      unfold lowR at k
      simpa using k
theorem add_can {L : List Rg} (h : Can 0 L) (r : Rg) (h0 : 0 ≤ r.fr) (h1 : r.fr < r.to) (hz : ¬ 0 < cntR r.fr r.to L) : Can 0 (addL L r) ∧ endL 0 (addL L r) ≤ max r.to (endL 0 L) ∧ ∀ x, atR (addL L r) x = if r.fr ≤ x ∧ x < r.to then some r.att else atR L x := by
  obtain ⟨t1, t2⟩ := ahead_take r.fr L
  unfold addL
  rw [t1, t2]
  have eL : L = L.takeWhile (lowR r.fr) ++ L.dropWhile (lowR r.fr) := (List.takeWhile_append_dropWhile).symm
  have eA := end_tw r.fr L 0 h0
  have hd := drop_head r.fr
  generalize hA : L.takeWhile (lowR r.fr) = A at eL eA ⊢
  generalize hB : L.dropWhile (lowR r.fr) = B at eL ⊢
  rw [eL] at h hz
  obtain ⟨s1, s2⟩ := can_split A B 0 h
  obtain ⟨p1, p2, p3⟩ := pre_can A [] 0 trivial s1
  have p2' : endL 0 (preL [] A) = endL 0 A := p2
  obtain ⟨w1, w2, w3⟩ := with_can (preL [] A) 0 r p1 (fun _ => by omega)
  rw [if_pos h1] at w2
  have cB : Can r.to B ∧ (B = [] ∨ ∃ c B', B = c :: B' ∧ r.to ≤ c.fr) := by
    cases B with
    | nil => exact ⟨trivial, Or.inl rfl⟩
    | cons c B' =>
      have k1 := hd c B' L hB
      have k2 := s2.1
      have k3 : c.len r.fr r.to = 0 := by
        rw [cntR_append] at hz
        have z1 := cnt_nn r.fr r.to A
        have z2 := cnt_nn r.fr r.to B'
        have z3 := len_nn c r.fr r.to
        have z4 : cntR r.fr r.to (c :: B') = c.len r.fr r.to + cntR r.fr r.to B' := rfl
        omega
      have k4 : r.to ≤ c.fr := by
        unfold Rg.len at k3
        by_cases q : max c.fr r.fr < min c.to r.to
        · rw [if_pos q] at k3; omega
        · omega
      exact ⟨⟨⟨k4, k2.2⟩, s2.2.1, s2.2.2⟩, Or.inr ⟨c, B', rfl, k4⟩⟩
  obtain ⟨q1, q2, q3⟩ := pre_can B (withL (preL [] A) r) 0 w1 (by rw [w2]; exact cB.1)
  rw [w2] at q2
  refine ⟨q1, ?_, fun x => ?_⟩
  · rw [q2, eL]
    cases B with
    | nil => show r.to ≤ _; omega
    | cons c B' =>
      have : ∀ (A : List Rg) (e : Int), endL e (A ++ c :: B') = endL c.to B' := fun A => by
        induction A with
        | nil => intro e; rfl
        | cons a A ih => intro e; exact ih a.to
      rw [this]; show endL c.to B' ≤ _; omega
  · rw [q3, w3, p3, eL, at_append]
    show ((((none : Option Att).or (atR A x)).or (r.pg x)).or (atR B x)) = _
    unfold Rg.pg
    by_cases c : r.fr ≤ x ∧ x < r.to
    · rw [if_pos c, if_pos c, at_high A 0 x s1 (by omega)]; rfl
    · rw [if_neg c, if_neg c]
      cases atR A x <;> rfl
end Go.Proofs.Ytngaodfajihmmaa
