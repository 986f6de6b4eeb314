/- Regions: lists that are told by their pages alone. -/
import Derived.Test.YtngaodfajihmmaaGD
namespace Go.Proofs.Ytngaodfajihmmaa
set_option linter.unusedSimpArgs false
set_option linter.unusedVariables false

abbrev Att := Bool × Bool × Bool × Int
def Rg.att (r : Rg) : Att := (r.w, r.u, r.x, r.kd)
/-- how a page may be used, and its kind -/
def atR : List Rg → Int → Option Att
  | [], _ => none
  | r :: l, x => if r.fr ≤ x ∧ x < r.to then some r.att else atR l x
/-- rising from e on, none empty, none that makes one with the next -/
def Can (e : Int) : List Rg → Prop
  | [] => True
  | r :: l => (e ≤ r.fr ∧ r.fr < r.to) ∧ Can r.to l ∧ ∀ c, l.head? = some c → r.joins c = false
def endL (e : Int) : List Rg → Int
  | [] => e
  | r :: l => endL r.to l
theorem can_end : ∀ (L : List Rg) (e : Int), Can e L → e ≤ endL e L
  | [], e, _ => Int.le_refl _
  | r :: l, e, h => by
    have := can_end l r.to h.2.1
    have := h.1
    show e ≤ endL r.to l
    omega
theorem at_low : ∀ (L : List Rg) (e x : Int), Can e L → x < e → atR L x = none
  | [], _, _, _, _ => rfl
  | r :: l, e, x, h, hx => by
    have := h.1
    unfold atR
    rw [if_neg (by omega)]
    exact at_low l r.to x h.2.1 (by omega)
theorem at_high : ∀ (L : List Rg) (e x : Int), Can e L → endL e L ≤ x → atR L x = none
  | [], _, _, _, _ => rfl
  | r :: l, e, x, h, hx => by
    have h1 := can_end l r.to h.2.1
    have h2 : endL r.to l ≤ x := hx
    unfold atR
    rw [if_neg (by omega)]
    exact at_high l r.to x h.2.1 h2
theorem at_append (M : List Rg) (x : Int) : ∀ L : List Rg, atR (L ++ M) x = (atR L x).or (atR M x)
  | [] => by simp [atR]
  | r :: l => by
    show (if r.fr ≤ x ∧ x < r.to then some r.att else atR (l ++ M) x) = (if r.fr ≤ x ∧ x < r.to then some r.att else atR l x).or (atR M x)
    by_cases c : r.fr ≤ x ∧ x < r.to
    · rw [if_pos c, if_pos c]; rfl
    · rw [if_neg c, if_neg c]; exact at_append M x l
theorem last_cons (r a : Rg) (l : List Rg) : lastR (r :: a :: l) = lastR (a :: l) := by
  unfold lastR
  simp [List.getD]
theorem last_one (r : Rg) : lastR [r] = r := rfl
theorem end_last : ∀ (L : List Rg) (e : Int), 0 < L.length → endL e L = (lastR L).to
  | [], _, h => absurd h (Nat.lt_irrefl _)
  | [r], _, _ => rfl
  | r :: a :: l, e, _ => by
    rw [last_cons]
    exact end_last (a :: l) r.to (by simp)
theorem can_snoc : ∀ (L : List Rg) (e : Int) (r : Rg), Can e L → endL e L ≤ r.fr → r.fr < r.to → (0 < L.length → (lastR L).joins r = false) → Can e (L ++ [r]) ∧ endL e (L ++ [r]) = r.to
  | [], e, r, _, h1, h2, _ => ⟨⟨⟨h1, h2⟩, trivial, fun c hc => by simp at hc⟩, rfl⟩
  | [a], e, r, h, h1, h2, h3 => by
    have h1' : a.to ≤ r.fr := h1
    refine ⟨⟨h.1, ⟨⟨h1', h2⟩, trivial, fun c hc => by simp at hc⟩, fun c hc => ?_⟩, rfl⟩
    have : c = r := by simpa using hc.symm
    subst this; exact h3 (by simp)
  | a :: b :: l, e, r, h, h1, h2, h3 => by
    obtain ⟨i1, i2⟩ := can_snoc (b :: l) a.to r h.2.1 h1 h2 (fun _ => by have := h3 (by simp); rwa [last_cons] at this)
    exact ⟨⟨h.1, i1, fun c hc => h.2.2 c (by simpa using hc)⟩, i2⟩
/-- the last one goes on -/
def extL : List Rg → Int → List Rg
  | [], _ => []
  | [a], t => [a.upto t]
  | a :: b :: l, t => a :: extL (b :: l) t
theorem set_ext : ∀ (L : List Rg) (t : Int), 0 < L.length → L.set (L.length - 1) ((lastR L).upto t) = extL L t
  | [], _, h => absurd h (Nat.lt_irrefl _)
  | [a], t, _ => rfl
  | a :: b :: l, t, _ => by
    have := set_ext (b :: l) t (by simp)
    rw [last_cons]
    show (a :: b :: l).set ((b :: l).length) _ = a :: extL (b :: l) t
    rw [← this]
    rfl
theorem joins_upto (a c : Rg) (t : Int) : a.joins (c.upto t) = a.joins c := rfl
theorem ext_head : ∀ (L : List Rg) (t : Int) (a : Rg), (∀ c, L.head? = some c → a.joins c = false) → ∀ c, (extL L t).head? = some c → a.joins c = false
  | [], _, _, h => h
  | [b], t, a, h => fun c hc => by
    have : c = b.upto t := by simpa [extL] using hc.symm
    subst this; rw [joins_upto]; exact h b rfl
  | b :: d :: l, t, a, h => fun c hc => h c (by simpa [extL] using hc)
theorem ext_can : ∀ (L : List Rg) (e t : Int), Can e L → 0 < L.length → endL e L ≤ t → Can e (extL L t) ∧ endL e (extL L t) = t
  | [], _, _, _, h, _ => absurd h (Nat.lt_irrefl _)
  | [a], e, t, h, _, ht => by
    have h1 := h.1
    have ht' : a.to ≤ t := ht
    exact ⟨⟨⟨h1.1, by show a.fr < t; omega⟩, trivial, fun c hc => by simp at hc⟩, rfl⟩
  | a :: b :: l, e, t, h, _, ht => by
    obtain ⟨i1, i2⟩ := ext_can (b :: l) a.to t h.2.1 (by simp) ht
    exact ⟨⟨h.1, i1, ext_head (b :: l) t a h.2.2⟩, i2⟩
theorem ext_at : ∀ (L : List Rg) (e t x : Int), Can e L → 0 < L.length → endL e L ≤ t → atR (extL L t) x = (atR L x).or (if endL e L ≤ x ∧ x < t then some (lastR L).att else none)
  | [], _, _, _, _, h, _ => absurd h (Nat.lt_irrefl _)
  | [a], e, t, x, h, _, ht => by
    have ht' : a.to ≤ t := ht
    have h1 := h.1
    show (if a.fr ≤ x ∧ x < t then some a.att else none) = (if a.fr ≤ x ∧ x < a.to then some a.att else none).or (if a.to ≤ x ∧ x < t then some a.att else none)
    by_cases c : a.fr ≤ x ∧ x < a.to
    · rw [if_pos c, if_pos (by omega)]; rfl
    · rw [if_neg c]
      by_cases d : a.to ≤ x ∧ x < t
      · rw [if_pos d, if_pos (by omega)]; rfl
      · rw [if_neg d, if_neg (by omega)]; rfl
  | a :: b :: l, e, t, x, h, _, ht => by
    have i := ext_at (b :: l) a.to t x h.2.1 (by simp) ht
    rw [last_cons]
    show (if a.fr ≤ x ∧ x < a.to then some a.att else atR (extL (b :: l) t) x) = (if a.fr ≤ x ∧ x < a.to then some a.att else atR (b :: l) x).or (if endL a.to (b :: l) ≤ x ∧ x < t then some (lastR (b :: l)).att else none)
    by_cases c : a.fr ≤ x ∧ x < a.to
    · rw [if_pos c, if_pos c]; rfl
    · rw [if_neg c, if_neg c]; exact i
theorem joins_is {a b : Rg} (h : a.joins b = true) : a.to = b.fr ∧ a.att = b.att := by
  unfold Rg.joins Rg.perm at h
  simp at h
  obtain ⟨h1, ⟨h2, h3, h4⟩, h5⟩ := h
  exact ⟨h1, by unfold Rg.att; rw [h2, h3, h4, h5]⟩
def Rg.pg (r : Rg) (x : Int) : Option Att := if r.fr ≤ x ∧ x < r.to then some r.att else none
theorem with_can (L : List Rg) (e : Int) (r : Rg) (h : Can e L) (hr : r.fr < r.to → endL e L ≤ r.fr) : Can e (withL L r) ∧ endL e (withL L r) = (if r.fr < r.to then r.to else endL e L) ∧ ∀ x, atR (withL L r) x = (atR L x).or (r.pg x) := by
  unfold withL
  by_cases c : r.to ≤ r.fr
  · rw [if_pos c, if_neg (by omega)]
    refine ⟨h, rfl, fun x => ?_⟩
    unfold Rg.pg; rw [if_neg (by omega)]; simp
  · have hc : r.fr < r.to := by omega
    have hr' := hr hc
    rw [if_neg c, if_pos hc]
    by_cases d : 0 < L.length ∧ (lastR L).joins r = true
    · obtain ⟨d1, d2⟩ := d
      rw [if_pos ⟨d1, d2⟩, set_ext L r.to d1]
      obtain ⟨j1, j2⟩ := joins_is d2
      have el := end_last L e d1
      obtain ⟨i1, i2⟩ := ext_can L e r.to h d1 (by omega)
      refine ⟨i1, i2, fun x => ?_⟩
      rw [ext_at L e r.to x h d1 (by omega), j2, el, j1]; rfl
    · rw [if_neg d]
      obtain ⟨i1, i2⟩ := can_snoc L e r h hr' hc (fun q => by
        cases k : (lastR L).joins r
        · rfl
        · exact absurd ⟨q, k⟩ d)
      refine ⟨i1, i2, fun x => ?_⟩
      rw [at_append]; rfl
theorem or_assoc4 (a b c : Option Att) : (a.or b).or c = a.or (b.or c) := by cases a <;> rfl
theorem pre_can : ∀ (L M : List Rg) (e : Int), Can e M → Can (endL e M) L → Can e (preL M L) ∧ endL e (preL M L) = endL (endL e M) L ∧ ∀ x, atR (preL M L) x = (atR M x).or (atR L x)
  | [], M, e, h, _ => ⟨h, rfl, fun x => by show atR M x = (atR M x).or none; simp⟩
  | r :: l, M, e, h, hl => by
    have h1 := hl.1
    obtain ⟨a1, a2, a3⟩ := with_can M e r h (fun _ => h1.1)
    rw [if_pos h1.2] at a2
    obtain ⟨b1, b2, b3⟩ := pre_can l (withL M r) e a1 (by rw [a2]; exact hl.2.1)
    refine ⟨b1, by show endL e (preL (withL M r) l) = _; rw [b2, a2]; rfl, fun x => ?_⟩
    show atR (preL (withL M r) l) x = _
    rw [b3, a3, or_assoc4]
    congr 1
    unfold Rg.pg
    show (if r.fr ≤ x ∧ x < r.to then some r.att else none).or (atR l x) = if r.fr ≤ x ∧ x < r.to then some r.att else atR l x
    by_cases c : r.fr ≤ x ∧ x < r.to
    · rw [if_pos c, if_pos c]; rfl
    · rw [if_neg c, if_neg c]; rfl
/-- two such lists with the same pages are one -/
theorem can_eq : ∀ (L M : List Rg) (e f : Int), Can e L → Can f M → (∀ x, atR L x = atR M x) → L = M
  | [], [], _, _, _, _, _ => rfl
  | [], b :: m, _, f, _, hm, h => by
    have h1 := hm.1
    have := h b.fr
    unfold atR at this
    rw [if_pos ⟨by omega, h1.2⟩] at this
    cases this
  | a :: l, [], e, _, hl, _, h => by
    have h1 := hl.1
    have := h a.fr
    unfold atR at this
    rw [if_pos ⟨by omega, h1.2⟩] at this
    cases this
  | a :: l, b :: m, e, f, hl, hm, h => by
    obtain ⟨l1, l2, l3⟩ := hl
    obtain ⟨m1, m2, m3⟩ := hm
    have atA : ∀ x, atR (a :: l) x = if a.fr ≤ x ∧ x < a.to then some a.att else atR l x := fun _ => rfl
    have atB : ∀ x, atR (b :: m) x = if b.fr ≤ x ∧ x < b.to then some b.att else atR m x := fun _ => rfl
    have ef : a.fr = b.fr := by
      have q1 := h a.fr
      have q2 := h b.fr
      rw [atA, atB, if_pos ⟨by omega, by omega⟩] at q1
      rw [atA, atB] at q2
      rw [if_pos (show b.fr ≤ b.fr ∧ b.fr < b.to from ⟨by omega, m1.2⟩)] at q2
      by_cases c : a.fr < b.fr
      · rw [if_neg (by omega), at_low m b.to a.fr m2 (by omega)] at q1; cases q1
      · by_cases d : b.fr < a.fr
        · rw [if_neg (by omega), at_low l a.to b.fr l2 (by omega)] at q2; cases q2
        · omega
    have ea : a.att = b.att := by
      have q1 := h a.fr
      rw [atA, atB, if_pos ⟨by omega, by omega⟩, if_pos ⟨by omega, by omega⟩] at q1
      exact Option.some.inj q1
    have key : ∀ (p q : Rg) (k n : List Rg), p.fr = q.fr → p.att = q.att → p.fr < p.to → Can p.to k → (∀ c, k.head? = some c → p.joins c = false) → (∀ x, (if p.fr ≤ x ∧ x < p.to then some p.att else atR k x) = if q.fr ≤ x ∧ x < q.to then some q.att else atR n x) → ¬ (p.to < q.to) := fun p q k n e1 e2 e3 e4 e5 e6 e7 => by
      have := e6 p.to
      rw [if_neg (by omega), if_pos ⟨by omega, e7⟩] at this
      cases k with
      | nil => cases this
      | cons c k' =>
        have c1 := e4.1
        unfold atR at this
        by_cases d : c.fr ≤ p.to ∧ p.to < c.to
        · rw [if_pos d] at this
          have ec : c.att = q.att := Option.some.inj this
          have j := e5 c rfl
          have : p.joins c = true := by
            unfold Rg.joins Rg.perm
            have e8 : p.att = c.att := by rw [e2, ec]
            unfold Rg.att at e8
            simp only [Prod.mk.injEq] at e8
            simp [e8.1, e8.2.1, e8.2.2.1, e8.2.2.2]
            omega
          rw [j] at this; cases this
        · rw [if_neg d, at_low k' c.to p.to e4.2.1 (by omega)] at this
          cases this
    have et : a.to = b.to := by
      have k1 := key a b l m ef ea l1.2 l2 l3 (fun x => by have := h x; rw [atA, atB] at this; exact this)
      have k2 := key b a m l ef.symm ea.symm m1.2 m2 m3 (fun x => by have := h x; rw [atA, atB] at this; exact this.symm)
      omega
    have eab : a = b := by
      obtain ⟨a1, a2, a3, a4, a5, a6⟩ := a
      obtain ⟨b1, b2, b3, b4, b5, b6⟩ := b
      unfold Rg.att at ea
      simp only [Prod.mk.injEq] at ea
      simp only at ef et
      obtain ⟨i1, i2, i3, i4⟩ := ea
      subst i1 i2 i3 i4 ef et
      rfl
    subst eab
    congr 1
    refine can_eq l m a.to a.to l2 m2 (fun x => ?_)
    by_cases c : x < a.to
    · rw [at_low l a.to x l2 c, at_low m a.to x m2 c]
    · have := h x
      rw [atA, atB, if_neg (by omega), if_neg (by omega)] at this
      exact this
end Go.Proofs.Ytngaodfajihmmaa
