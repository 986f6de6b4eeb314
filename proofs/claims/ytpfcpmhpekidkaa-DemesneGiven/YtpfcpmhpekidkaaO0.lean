/- Ranges as sets of numbers: lists that rise and don't meet are told by their numbers; merging, taking away. -/
import Derived.Test.YtpfcpmhpekidkaaChecked
namespace Go.Proofs.Ytpfcpmhpekidkaa.Bm
set_option linter.unusedSimpArgs false
set_option linter.unusedVariables false

/-- a number lies in one of the ranges -/
def Has (L : List (Int × Int)) (n : Int) : Prop := ∃ r ∈ L, r.1 ≤ n ∧ n < r.2
/-- none empty, each ends ahead of the next -/
def Can (L : List (Int × Int)) : Prop := (∀ r ∈ L, r.1 < r.2) ∧ L.Pairwise (fun a b => a.2 < b.1)
theorem has_nil (n : Int) : ¬ Has [] n := fun ⟨_, h, _⟩ => absurd h List.not_mem_nil
theorem has_cons (r : Int × Int) (L : List (Int × Int)) (n : Int) : Has (r :: L) n ↔ (r.1 ≤ n ∧ n < r.2) ∨ Has L n := by
  constructor
  · rintro ⟨q, hq, h⟩
    rcases List.mem_cons.1 hq with e | e
    · subst e; exact Or.inl h
    · exact Or.inr ⟨q, e, h⟩
  · rintro (h | ⟨q, hq, h⟩)
    · exact ⟨r, List.mem_cons_self, h⟩
    · exact ⟨q, List.mem_cons_of_mem _ hq, h⟩
theorem has_app (L M : List (Int × Int)) (n : Int) : Has (L ++ M) n ↔ Has L n ∨ Has M n := by
  induction L with
  | nil => simp [has_nil]
  | cons r L ih => rw [List.cons_append, has_cons, has_cons, ih, or_assoc]
theorem has_one (r : Int × Int) (n : Int) : Has [r] n ↔ r.1 ≤ n ∧ n < r.2 := by
  rw [has_cons]; simp [has_nil]
theorem has_perm {L M : List (Int × Int)} (h : L.Perm M) (n : Int) : Has L n ↔ Has M n :=
  ⟨fun ⟨r, a, b⟩ => ⟨r, h.mem_iff.1 a, b⟩, fun ⟨r, a, b⟩ => ⟨r, h.mem_iff.2 a, b⟩⟩
theorem can_nil : Can [] := ⟨fun _ h => absurd h List.not_mem_nil, List.Pairwise.nil⟩
theorem can_cons {r : Int × Int} {L : List (Int × Int)} : Can (r :: L) ↔ r.1 < r.2 ∧ (∀ q ∈ L, r.2 < q.1) ∧ Can L := by
  constructor
  · rintro ⟨h1, h2⟩
    have := List.pairwise_cons.1 h2
    exact ⟨h1 r List.mem_cons_self, this.1, fun q hq => h1 q (List.mem_cons_of_mem _ hq), this.2⟩
  · rintro ⟨h0, h1, h2, h3⟩
    refine ⟨fun q hq => ?_, List.pairwise_cons.2 ⟨h1, h3⟩⟩
    rcases List.mem_cons.1 hq with e | e
    · subst e; exact h0
    · exact h2 q e
theorem can_app {L M : List (Int × Int)} (h1 : Can L) (h2 : Can M) (h : ∀ a ∈ L, ∀ b ∈ M, a.2 < b.1) : Can (L ++ M) :=
  ⟨fun r hr => (List.mem_append.1 hr).elim (h1.1 r) (h2.1 r), List.pairwise_append.2 ⟨h1.2, h2.2, h⟩⟩
theorem can_one {r : Int × Int} (h : r.1 < r.2) : Can [r] := can_cons.2 ⟨h, fun q hq => absurd hq List.not_mem_nil, can_nil⟩
theorem can_first {r : Int × Int} {L : List (Int × Int)} (h : Can (r :: L)) {n : Int} (hn : Has (r :: L) n) : r.1 ≤ n := by
  obtain ⟨h0, h1, h2⟩ := can_cons.1 h
  rcases (has_cons r L n).1 hn with a | ⟨q, hq, a, _⟩
  · exact a.1
  · have := h1 q hq; omega
theorem can_head {r : Int × Int} {L : List (Int × Int)} (h : Can (r :: L)) : Has (r :: L) r.1 := ⟨r, List.mem_cons_self, Int.le_refl _, (can_cons.1 h).1⟩
theorem can_past {r : Int × Int} {L : List (Int × Int)} (h : Can (r :: L)) : ¬ Has (r :: L) r.2 := by
  obtain ⟨h0, h1, h2⟩ := can_cons.1 h
  intro hn
  rcases (has_cons r L r.2).1 hn with a | ⟨q, hq, a, _⟩
  · omega
  · have := h1 q hq; omega
/-- lists that rise and don't meet are told by their numbers -/
theorem can_eq : ∀ (L M : List (Int × Int)), Can L → Can M → (∀ n, Has L n ↔ Has M n) → L = M
  | [], [], _, _, _ => rfl
  | [], b :: M, _, h2, h => absurd ((h b.1).2 (can_head h2)) (has_nil _)
  | a :: L, [], h1, _, h => absurd ((h a.1).1 (can_head h1)) (has_nil _)
  | a :: L, b :: M, h1, h2, h => by
    have e1 : a.1 = b.1 := Int.le_antisymm (can_first h1 ((h b.1).2 (can_head h2))) (can_first h2 ((h a.1).1 (can_head h1)))
    obtain ⟨p0, p1, p2⟩ := can_cons.1 h1
    obtain ⟨q0, q1, q2⟩ := can_cons.1 h2
    have e2 : a.2 = b.2 := by
      rcases Int.lt_trichotomy a.2 b.2 with c | c | c
      · exact absurd ((h a.2).2 ((has_cons b M a.2).2 (Or.inl ⟨by omega, c⟩))) (can_past h1)
      · exact c
      · exact absurd ((h b.2).1 ((has_cons a L b.2).2 (Or.inl ⟨by omega, c⟩))) (can_past h2)
    obtain rfl : a = b := Prod.ext e1 e2
    congr 1
    refine can_eq L M p2 q2 fun n => ?_
    have hn := h n
    rw [has_cons, has_cons] at hn
    constructor
    · intro k
      rcases hn.1 (Or.inr k) with c | c
      · obtain ⟨q, hq, k1, _⟩ := k
        have := p1 q hq; omega
      · exact c
    · intro k
      rcases hn.2 (Or.inr k) with c | c
      · obtain ⟨q, hq, k1, _⟩ := k
        have := q1 q hq; omega
      · exact c

theorem nil_or_snoc {α : Type} (L : List α) : L = [] ∨ ∃ M q, L = M ++ [q] := by
  rcases List.eq_nil_or_concat L with e | ⟨M, q, e⟩
  · exact Or.inl e
  · exact Or.inr ⟨M, q, by rw [e, List.concat_eq_append]⟩
/-- one range more, that begins behind all that there are -/
def mrg1 (M : List (Int × Int)) (r : Int × Int) : List (Int × Int) :=
  if r.2 ≤ r.1 then M else match M.getLast? with
    | none => [r]
    | some q => if r.1 ≤ q.2 then M.dropLast ++ [(q.1, max q.2 r.2)] else M ++ [r]
def mrgL (S : List (Int × Int)) : List (Int × Int) := S.foldl mrg1 []
theorem mrg1_empty {M : List (Int × Int)} {r : Int × Int} (h : r.2 ≤ r.1) : mrg1 M r = M := by unfold mrg1; rw [if_pos h]
theorem mrg1_first {r : Int × Int} (h : r.1 < r.2) : mrg1 [] r = [r] := by unfold mrg1; rw [if_neg (by omega)]; rfl
theorem mrg1_meet {M : List (Int × Int)} {q r : Int × Int} (h : r.1 < r.2) (hq : r.1 ≤ q.2) : mrg1 (M ++ [q]) r = M ++ [(q.1, max q.2 r.2)] := by
  unfold mrg1; rw [if_neg (by omega)]; simp [hq]
theorem mrg1_new {M : List (Int × Int)} {q r : Int × Int} (h : r.1 < r.2) (hq : q.2 < r.1) : mrg1 (M ++ [q]) r = M ++ [q] ++ [r] := by
  unfold mrg1; rw [if_neg (by omega)]; simp; omega
structure MrgI (M : List (Int × Int)) (P : Int → Prop) (k : Int) : Prop where
  can : Can M
  has : ∀ n, Has M n ↔ P n
  low : ∀ q ∈ M, q.1 ≤ k
theorem can_split {M : List (Int × Int)} {q : Int × Int} (h : Can (M ++ [q])) : Can M ∧ q.1 < q.2 ∧ ∀ a ∈ M, a.2 < q.1 :=
  ⟨⟨fun r hr => h.1 r (List.mem_append_left _ hr), (List.pairwise_append.1 h.2).1⟩, h.1 q (List.mem_append_right _ List.mem_cons_self), fun a ha => (List.pairwise_append.1 h.2).2.2 a ha q List.mem_cons_self⟩
theorem mrg_step {M : List (Int × Int)} {P : Int → Prop} {k : Int} (H : MrgI M P k) (r : Int × Int) (hr : k ≤ r.1) : MrgI (mrg1 M r) (fun n => P n ∨ (r.1 ≤ n ∧ n < r.2)) r.1 := by
  by_cases c : r.2 ≤ r.1
  · rw [mrg1_empty c]
    refine ⟨H.can, fun n => ?_, fun q hq => by have := H.low q hq; omega⟩
    rw [H.has n]
    exact ⟨Or.inl, fun h => h.elim id (fun h => by omega)⟩
  · rcases nil_or_snoc M with e | ⟨M', q, e⟩
    · subst e
      rw [mrg1_first (by omega)]
      refine ⟨can_one (by omega), fun n => ?_, fun q hq => ?_⟩
      · rw [has_one, ← H.has n]
        exact ⟨Or.inr, fun h => h.elim (fun h => absurd h (has_nil _)) id⟩
      · obtain rfl := List.mem_singleton.1 hq; exact Int.le_refl _
    · subst e
      obtain ⟨h1, h2, h3⟩ := can_split H.can
      have lq := H.low q (List.mem_append_right _ List.mem_cons_self)
      by_cases d : r.1 ≤ q.2
      · rw [mrg1_meet (by omega) d]
        refine ⟨can_app h1 (can_one (by simp; omega)) fun a ha b hb => ?_, fun n => ?_, fun p hp => ?_⟩
        · obtain rfl := List.mem_singleton.1 hb; exact h3 a ha
        · rw [has_app, has_one, ← H.has n, has_app, has_one]
          constructor
          · rintro (h | ⟨ha, hb⟩)
            · exact Or.inl (Or.inl h)
            · have hb' : n < max q.2 r.2 := hb
              have ha' : q.1 ≤ n := ha
              by_cases e : n < q.2
              · exact Or.inl (Or.inr ⟨ha', e⟩)
              · exact Or.inr ⟨by omega, by omega⟩
          · rintro ((h | ⟨ha, hb⟩) | ⟨ha, hb⟩)
            · exact Or.inl h
            · exact Or.inr ⟨ha, by show n < max q.2 r.2; omega⟩
            · exact Or.inr ⟨by show q.1 ≤ n; omega, by show n < max q.2 r.2; omega⟩
        · rcases List.mem_append.1 hp with e | e
          · have := H.low p (List.mem_append_left _ e); omega
          · obtain rfl := List.mem_singleton.1 e; show q.1 ≤ r.1; omega
      · rw [mrg1_new (by omega) (by omega)]
        refine ⟨can_app H.can (can_one (by omega)) fun a ha b hb => ?_, fun n => ?_, fun p hp => ?_⟩
        · obtain rfl := List.mem_singleton.1 hb
          rcases List.mem_append.1 ha with e | e
          · have := h3 a e; omega
          · obtain rfl := List.mem_singleton.1 e; omega
        · rw [has_app, has_one, ← H.has n]
        · rcases List.mem_append.1 hp with e | e
          · have := H.low p e; omega
          · obtain rfl := List.mem_singleton.1 e; exact Int.le_refl _
theorem mrg_fold : ∀ (S M : List (Int × Int)) (P : Int → Prop) (k : Int), MrgI M P k → (S.Pairwise fun a b => a.1 ≤ b.1) → (∀ r ∈ S, k ≤ r.1) → Can (S.foldl mrg1 M) ∧ ∀ n, Has (S.foldl mrg1 M) n ↔ P n ∨ Has S n
  | [], M, P, k, H, _, _ => ⟨H.can, fun n => by
      show Has M n ↔ _
      rw [H.has n]; exact ⟨Or.inl, fun h => h.elim id (fun h => absurd h (has_nil _))⟩⟩
  | r :: S, M, P, k, H, hs, hk => by
    obtain ⟨h1, h2⟩ := List.pairwise_cons.1 hs
    have := mrg_fold S (mrg1 M r) _ r.1 (mrg_step H r (hk r List.mem_cons_self)) h2 h1
    refine ⟨this.1, fun n => ?_⟩
    show Has (S.foldl mrg1 (mrg1 M r)) n ↔ _
    rw [this.2 n, has_cons, or_assoc]
theorem mrg_any (S : List (Int × Int)) (hs : S.Pairwise fun a b => a.1 ≤ b.1) : Can (mrgL S) ∧ ∀ n, Has (mrgL S) n ↔ Has S n := by
  cases S with
  | nil => exact ⟨can_nil, fun n => Iff.rfl⟩
  | cons r S =>
    have := mrg_fold (r :: S) [] (fun _ => False) r.1 ⟨can_nil, fun n => ⟨fun h => absurd h (has_nil _), False.elim⟩, fun q hq => absurd hq List.not_mem_nil⟩ hs (fun q hq => by
      rcases List.mem_cons.1 hq with e | e
      · subst e; exact Int.le_refl _
      · exact (List.pairwise_cons.1 hs).1 q e)
    exact ⟨this.1, fun n => by rw [mrgL, this.2 n]; exact ⟨fun h => h.elim False.elim id, Or.inr⟩⟩

/-- what a range has outside the cuts -/
def restL (f t : Int) : List (Int × Int) → List (Int × Int)
  | [] => if f < t then [(f, t)] else []
  | c :: cs => if t ≤ c.1 then (if f < t then [(f, t)] else []) else (if f < c.1 then [(f, c.1)] else []) ++ restL c.2 t cs
theorem rest_any : ∀ (cs : List (Int × Int)) (f t : Int), Can cs → (∀ c ∈ cs, f < c.2) →
    Can (restL f t cs) ∧ (∀ q ∈ restL f t cs, f ≤ q.1 ∧ q.2 ≤ t) ∧ ∀ n, Has (restL f t cs) n ↔ (f ≤ n ∧ n < t) ∧ ¬ Has cs n
  | [], f, t, _, _ => by
    unfold restL
    by_cases c : f < t
    · rw [if_pos c]
      refine ⟨can_one c, fun q hq => ?_, fun n => ?_⟩
      · obtain rfl := List.mem_singleton.1 hq; exact ⟨Int.le_refl _, Int.le_refl _⟩
      · rw [has_one]; exact ⟨fun h => ⟨h, has_nil _⟩, fun h => h.1⟩
    · rw [if_neg c]
      exact ⟨can_nil, fun q hq => absurd hq List.not_mem_nil, fun n => ⟨fun h => absurd h (has_nil _), fun h => by omega⟩⟩
  | c :: cs, f, t, hc, hf => by
    obtain ⟨c0, c1, c2⟩ := can_cons.1 hc
    have f0 := hf c List.mem_cons_self
    unfold restL
    by_cases d : t ≤ c.1
    · rw [if_pos d]
      have no : ∀ n, n < t → ¬ Has (c :: cs) n := fun n hn h => by
        have := can_first hc h
        omega
      by_cases e : f < t
      · rw [if_pos e]
        refine ⟨can_one e, fun q hq => ?_, fun n => ?_⟩
        · obtain rfl := List.mem_singleton.1 hq; exact ⟨Int.le_refl _, Int.le_refl _⟩
        · rw [has_one]; exact ⟨fun h => ⟨h, no n h.2⟩, fun h => h.1⟩
      · rw [if_neg e]
        exact ⟨can_nil, fun q hq => absurd hq List.not_mem_nil, fun n => ⟨fun h => absurd h (has_nil _), fun h => by omega⟩⟩
    · rw [if_neg d]
      obtain ⟨i1, i2, i3⟩ := rest_any cs c.2 t c2 (fun q hq => by have := c1 q hq; have := c2.1 q hq; omega)
      by_cases e : f < c.1
      · rw [if_pos e]
        refine ⟨can_app (can_one e) i1 fun a ha b hb => ?_, fun q hq => ?_, fun n => ?_⟩
        · obtain rfl := List.mem_singleton.1 ha
          have := i2 b hb
          show c.1 < b.1
          omega
        · rcases List.mem_append.1 hq with k | k
          · obtain rfl := List.mem_singleton.1 k
            exact ⟨Int.le_refl _, by show c.1 ≤ t; omega⟩
          · have := i2 q k; omega
        · rw [has_app, has_one, i3 n, has_cons]
          constructor
          · rintro (⟨a, b⟩ | ⟨⟨a, b⟩, k⟩)
            · have a' : f ≤ n := a
              have b' : n < c.1 := b
              refine ⟨⟨a', by omega⟩, ?_⟩
              rintro (k | ⟨q, hq, k, _⟩)
              · omega
              · have := c1 q hq; omega
            · refine ⟨⟨by omega, b⟩, ?_⟩
              rintro (k' | k')
              · omega
              · exact k k'
          · rintro ⟨⟨a, b⟩, k⟩
            by_cases g : n < c.1
            · exact Or.inl ⟨a, g⟩
            · refine Or.inr ⟨⟨?_, b⟩, fun k' => k (Or.inr k')⟩
              refine Int.not_lt.1 fun g' => k (Or.inl ⟨by omega, g'⟩)
      · rw [if_neg e, List.nil_append]
        refine ⟨i1, fun q hq => by have := i2 q hq; omega, fun n => ?_⟩
        rw [i3 n, has_cons]
        constructor
        · rintro ⟨⟨a, b⟩, k⟩
          refine ⟨⟨by omega, b⟩, ?_⟩
          rintro (k' | k')
          · omega
          · exact k k'
        · rintro ⟨⟨a, b⟩, k⟩
          refine ⟨⟨?_, b⟩, fun k' => k (Or.inr k')⟩
          exact Int.not_lt.1 fun g' => k (Or.inl ⟨by omega, g'⟩)
/-- cuts that lie below a number are let go -/
def dropL (f : Int) : List (Int × Int) → List (Int × Int)
  | [] => []
  | c :: cs => if c.2 ≤ f then dropL f cs else c :: cs
def lessL : List (Int × Int) → List (Int × Int) → List (Int × Int)
  | [], _ => []
  | r :: L, cs => restL r.1 r.2 (dropL r.1 cs) ++ lessL L (dropL r.1 cs)
theorem drop_any : ∀ (cs : List (Int × Int)) (f : Int), Can cs → Can (dropL f cs) ∧ (∀ c ∈ dropL f cs, f < c.2) ∧ ∀ n, f ≤ n → (Has (dropL f cs) n ↔ Has cs n)
  | [], f, h => ⟨can_nil, fun c hc => absurd hc List.not_mem_nil, fun n _ => Iff.rfl⟩
  | c :: cs, f, h => by
    obtain ⟨c0, c1, c2⟩ := can_cons.1 h
    unfold dropL
    by_cases d : c.2 ≤ f
    · rw [if_pos d]
      obtain ⟨i1, i2, i3⟩ := drop_any cs f c2
      refine ⟨i1, i2, fun n hn => ?_⟩
      rw [i3 n hn, has_cons]
      exact ⟨Or.inr, fun h => h.elim (fun h => by omega) id⟩
    · rw [if_neg d]
      refine ⟨h, fun q hq => ?_, fun n _ => Iff.rfl⟩
      rcases List.mem_cons.1 hq with e | e
      · subst e; omega
      · have := c1 q e; have := c2.1 q e; omega
theorem less_any : ∀ (L cs : List (Int × Int)), Can L → Can cs → Can (lessL L cs) ∧ (∀ q ∈ lessL L cs, ∀ r L', L = r :: L' → r.1 ≤ q.1) ∧ ∀ n, Has (lessL L cs) n ↔ Has L n ∧ ¬ Has cs n
  | [], cs, _, _ => ⟨can_nil, fun q hq => absurd hq List.not_mem_nil, fun n => ⟨fun h => absurd h (has_nil _), fun h => absurd h.1 (has_nil _)⟩⟩
  | r :: L, cs, h, hc => by
    obtain ⟨r0, r1, r2⟩ := can_cons.1 h
    obtain ⟨d1, d2, d3⟩ := drop_any cs r.1 hc
    obtain ⟨p1, p2, p3⟩ := rest_any (dropL r.1 cs) r.1 r.2 d1 d2
    obtain ⟨i1, i2, i3⟩ := less_any L (dropL r.1 cs) r2 d1
    have low : ∀ q ∈ lessL L (dropL r.1 cs), r.2 < q.1 := fun q hq => by
      cases L with
      | nil => exact absurd hq List.not_mem_nil
      | cons a L' =>
        have := i2 q hq a L' rfl
        have := r1 a List.mem_cons_self
        omega
    unfold lessL
    refine ⟨can_app p1 i1 fun a ha b hb => ?_, fun q hq a L' e => ?_, fun n => ?_⟩
    · have := p2 a ha; have := low b hb; omega
    · obtain ⟨rfl, rfl⟩ := List.cons.inj e
      rcases List.mem_append.1 hq with k | k
      · exact (p2 q k).1
      · have := low q k; omega
    · rw [has_app, p3 n, i3 n, has_cons]
      constructor
      · rintro (⟨a, b⟩ | ⟨a, b⟩)
        · exact ⟨Or.inl a, fun k => b ((d3 n a.1).2 k)⟩
        · obtain ⟨q, hq, k1, _⟩ := id a
          have := r1 q hq
          exact ⟨Or.inr a, fun k => b ((d3 n (by omega)).2 k)⟩
      · rintro ⟨a | a, b⟩
        · exact Or.inl ⟨a, fun k => b ((d3 n a.1).1 k)⟩
        · obtain ⟨q, hq, k1, _⟩ := id a
          have := r1 q hq
          exact Or.inr ⟨a, fun k => b ((d3 n (by omega)).1 k)⟩

/-- the document's: from end to end -/
def pieceV (out : List (Int × Int)) (a b : Int) (is : Bool) : List (Int × Int) :=
  if is then (match out.getLast? with
    | none => [(a, b)]
    | some q => if q.2 = a then out.dropLast ++ [(q.1, b)] else out ++ [(a, b)]) else out
theorem piece_no (out : List (Int × Int)) (a b : Int) : pieceV out a b false = out := rfl
theorem piece_first (a b : Int) : pieceV [] a b true = [(a, b)] := rfl
theorem piece_meet (out : List (Int × Int)) (q : Int × Int) (b : Int) : pieceV (out ++ [q]) q.2 b true = out ++ [(q.1, b)] := by simp [pieceV]
theorem piece_new (out : List (Int × Int)) (q : Int × Int) (a b : Int) (h : q.2 ≠ a) : pieceV (out ++ [q]) a b true = out ++ [q] ++ [(a, b)] := by simp [pieceV, h]
theorem piece_any {out : List (Int × Int)} {a b : Int} {is : Bool} {P : Int → Prop} (hc : Can out) (he : ∀ q ∈ out, q.2 ≤ a) (hab : a < b) (hh : ∀ n, Has out n ↔ P n ∧ n < a) (hP : ∀ n, a ≤ n → n < b → (P n ↔ is = true)) :
    Can (pieceV out a b is) ∧ (∀ q ∈ pieceV out a b is, q.2 ≤ b) ∧ ∀ n, Has (pieceV out a b is) n ↔ P n ∧ n < b := by
  cases is with
  | false =>
    rw [piece_no]
    refine ⟨hc, fun q hq => by have := he q hq; omega, fun n => ?_⟩
    rw [hh n]
    constructor
    · rintro ⟨h1, h2⟩; exact ⟨h1, by omega⟩
    · rintro ⟨h1, h2⟩
      refine ⟨h1, Int.not_le.1 fun k => ?_⟩
      have := (hP n k h2).1 h1
      cases this
  | true =>
    rcases nil_or_snoc out with e | ⟨M, q, e⟩
    · subst e
      rw [piece_first]
      refine ⟨can_one hab, fun q hq => by obtain rfl := List.mem_singleton.1 hq; exact Int.le_refl _, fun n => ?_⟩
      rw [has_one]
      constructor
      · rintro ⟨h1, h2⟩
        have h1' : a ≤ n := h1
        have h2' : n < b := h2
        exact ⟨(hP n h1' h2').2 rfl, h2'⟩
      · rintro ⟨h1, h2⟩
        refine ⟨Int.not_lt.1 fun k => ?_, h2⟩
        exact absurd ((hh n).2 ⟨h1, k⟩) (has_nil _)
    · subst e
      obtain ⟨s1, s2, s3⟩ := can_split hc
      have lq := he q (List.mem_append_right _ List.mem_cons_self)
      by_cases d : q.2 = a
      · subst d
        rw [piece_meet]
        refine ⟨can_app s1 (can_one (by show q.1 < b; omega)) fun x hx y hy => ?_, fun x hx => ?_, fun n => ?_⟩
        · obtain rfl := List.mem_singleton.1 hy; exact s3 x hx
        · rcases List.mem_append.1 hx with k | k
          · have := he x (List.mem_append_left _ k); omega
          · obtain rfl := List.mem_singleton.1 k; exact Int.le_refl _
        · have := hh n
          rw [has_app, has_one] at this
          rw [has_app, has_one]
          constructor
          · rintro (k | ⟨k1, k2⟩)
            · have := this.1 (Or.inl k)
              exact ⟨this.1, by omega⟩
            · have k1' : q.1 ≤ n := k1
              have k2' : n < b := k2
              by_cases g : n < q.2
              · exact ⟨(this.1 (Or.inr ⟨k1', g⟩)).1, k2'⟩
              · exact ⟨(hP n (by omega) k2').2 rfl, k2'⟩
          · rintro ⟨k1, k2⟩
            by_cases g : n < q.2
            · rcases this.2 ⟨k1, g⟩ with h | h
              · exact Or.inl h
              · exact Or.inr ⟨h.1, k2⟩
            · exact Or.inr ⟨by show q.1 ≤ n; omega, k2⟩
      · rw [piece_new _ _ _ _ d]
        refine ⟨can_app hc (can_one hab) fun x hx y hy => ?_, fun x hx => ?_, fun n => ?_⟩
        · obtain rfl := List.mem_singleton.1 hy
          rcases List.mem_append.1 hx with k | k
          · have := s3 x k; show x.2 < a; omega
          · obtain rfl := List.mem_singleton.1 k; show x.2 < a; omega
        · rcases List.mem_append.1 hx with k | k
          · have := he x k; omega
          · obtain rfl := List.mem_singleton.1 k; exact Int.le_refl _
        · rw [has_app, has_one, hh n]
          constructor
          · rintro (k | ⟨k1, k2⟩)
            · exact ⟨k.1, by omega⟩
            · have k1' : a ≤ n := k1
              have k2' : n < b := k2
              exact ⟨(hP n k1' k2').2 rfl, k2'⟩
          · rintro ⟨k1, k2⟩
            by_cases g : n < a
            · exact Or.inl ⟨k1, g⟩
            · exact Or.inr ⟨by show a ≤ n; omega, k2⟩
end Go.Proofs.Ytpfcpmhpekidkaa.Bm
