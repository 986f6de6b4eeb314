/- Boot maps: any number of areas, in any order. -/
import Derived.Test.YtkgjeemecpigpaaOI
namespace Go.Proofs.Ytkgjeemecpigpaa.Bm
open Go.ChangeShapes Go.WideShapes Go.ChangeAt Go.RowKit Go.Maps
set_option linter.unusedSimpArgs false
set_option linter.unusedVariables false
set_option maxRecDepth 8000

def flatB (A : List Ar) : List Int := A.flatMap entB
theorem flatB_nil : flatB [] = [] := rfl
theorem flatB_cons (x : Ar) (A : List Ar) : flatB (x :: A) = entB x ++ flatB A := by unfold flatB; rw [List.flatMap_cons]
theorem flatB_app (A C : List Ar) : flatB (A ++ C) = flatB A ++ flatB C := by unfold flatB; rw [List.flatMap_append]
theorem flatB_len : ∀ A : List Ar, (flatB A).length = A.length * 20
  | [] => rfl
  | x :: A => by rw [flatB_cons, List.length_append, flatB_len A, ent_len, List.length_cons]; omega
theorem flatB_byt : ∀ A : List Ar, Byt (flatB A)
  | [] => fun x hx => absurd hx List.not_mem_nil
  | x :: A => by rw [flatB_cons]; exact byt_app (ent_byt x) (flatB_byt A)
theorem flatB_get : ∀ (A : List Ar) (j : Nat) (hj : j < A.length) (i : Nat), i < 20 → (flatB A)[j * 20 + i]? = (entB A[j])[i]?
  | x :: A, 0, hj, i, hi => by
    rw [flatB_cons, List.getElem?_append_left (by rw [ent_len]; omega), Nat.zero_mul, Nat.zero_add]; rfl
  | x :: A, j + 1, hj, i, hi => by
    rw [flatB_cons, List.getElem?_append_right (by rw [ent_len]; omega), ent_len, show (j + 1) * 20 + i - 20 = j * 20 + i by omega, flatB_get A j (by simpa using hj) i hi]; rfl
/-- the bytes of areas are read as the areas -/
theorem areas_flat (A : List Ar) (hA : ∀ x ∈ A, x.wf) : areasL (BL (flatB A)) A.length = A := by
  refine List.ext_getElem (by rw [areas_len]) (fun j h1 h2 => ?_)
  have q : (areasL (BL (flatB A)) A.length)[j] = arB (BL (flatB A)) (j * 20) := by simp [areasL]
  rw [q]
  refine ent_back (hA _ (List.getElem_mem h2)) (fun i hi => ?_)
  unfold BL
  rw [List.getD_eq_getElem?_getD, List.getD_eq_getElem?_getD, flatB_get A j h2 i hi]
/-- what Frames answers of areas -/
def FA (A : List Ar) (F : Int) (k : Int × Int) (z : Int) (M : List (Int × Int)) : Prop :=
  (¬ Good F k ∧ z = 1 ∧ M = []) ∨ (Good F k ∧ (∃ x ∈ A, ¬ Fit x) ∧ z = 3 ∧ M = []) ∨ (Good F k ∧ (∀ x ∈ A, Fit x) ∧ Can M ∧ (∀ x, Has M x ↔ FR F k A x) ∧ z = if M.length = 0 then 7 else 0)
theorem fz_flat {A : List Ar} (hA : ∀ x ∈ A, x.wf) (hl : A.length ≤ 64) {F : Int} {k : Int × Int} {z : Int} {M : List (Int × Int)} (h : FZ (BL (flatB A)) (A.length * 20) F k z M) : FA A F k z M := by
  have e := areas_flat A hA
  have d : A.length * 20 / 20 = A.length := Nat.mul_div_cancel _ (by omega)
  rcases h with ⟨a, b, c⟩ | ⟨a, y, A', p, q, b, c⟩ | ⟨a, A', p, q, r, b⟩
  · exact Or.inl ⟨a, b, c⟩
  · rcases p with ⟨n1, _⟩ | ⟨_, n1, _⟩ | ⟨_, _, ⟨x, hx, nx⟩, n2, _⟩ | ⟨_, _, _, n2, _⟩
    · exact absurd n1 (by omega)
    · exact absurd n1 (by omega)
    · rw [d, e] at hx
      exact Or.inr (Or.inl ⟨a, ⟨x, hx, nx⟩, b.trans n2, c⟩)
    · exact absurd n2 q
  · obtain ⟨n1, n2, n3, n4⟩ := p.ok
    rw [d, e] at n4
    subst n4
    exact Or.inr (Or.inr ⟨a, n3, q, r, b⟩)
theorem has_use (F : Int) (A : List Ar) (n : Int) : Has (useL F A) n ↔ ∃ x ∈ A, x.k = 1 ∧ (useR F x).1 ≤ n ∧ n < (useR F x).2 := by
  constructor
  · rintro ⟨r, hr, q1, q2⟩
    unfold useL at hr
    obtain ⟨x, hx, rfl⟩ := List.mem_map.1 hr
    obtain ⟨h1, h2⟩ := List.mem_filter.1 hx
    exact ⟨x, h1, by simpa using h2, q1, q2⟩
  · rintro ⟨x, hx, hk, q1, q2⟩
    exact ⟨useR F x, List.mem_map.2 ⟨x, List.mem_filter.2 ⟨hx, by simpa using hk⟩, rfl⟩, q1, q2⟩
theorem has_away (k : Int × Int) (A : List Ar) (n : Int) : Has (awayL k A) n ↔ (k.1 ≤ n ∧ n < k.2) ∨ ∃ x ∈ A, x.k ≠ 1 ∧ (tchR x).1 ≤ n ∧ n < (tchR x).2 := by
  unfold awayL
  rw [has_cons]
  refine or_congr Iff.rfl ?_
  constructor
  · rintro ⟨r, hr, q1, q2⟩
    obtain ⟨x, hx, rfl⟩ := List.mem_map.1 hr
    obtain ⟨h1, h2⟩ := List.mem_filter.1 hx
    exact ⟨x, h1, by simpa using h2, q1, q2⟩
  · rintro ⟨x, hx, hk, q1, q2⟩
    exact ⟨tchR x, List.mem_map.2 ⟨x, List.mem_filter.2 ⟨hx, by simpa using hk⟩, rfl⟩, q1, q2⟩
theorem fr_mem {F : Int} {k : Int × Int} {A C : List Ar} (h : ∀ x, x ∈ A ↔ x ∈ C) (n : Int) : FR F k A n ↔ FR F k C n := by
  unfold FR
  rw [has_use, has_use, has_away, has_away]
  simp only [h]
theorem FA.one {A C : List Ar} (hm : ∀ x, x ∈ A ↔ x ∈ C) {F : Int} {k : Int × Int} {z z' : Int} {M M' : List (Int × Int)} (h : FA A F k z M) (h' : FA C F k z' M') : z = z' ∧ M = M' := by
  rcases h with ⟨a, b, c⟩ | ⟨a, ⟨x, hx, nx⟩, b, c⟩ | ⟨a, p, q, r, b⟩ <;> rcases h' with ⟨a', b', c'⟩ | ⟨a', ⟨y, hy, ny⟩, b', c'⟩ | ⟨a', p', q', r', b'⟩
  · exact ⟨b.trans b'.symm, c.trans c'.symm⟩
  · exact absurd a' a
  · exact absurd a' a
  · exact absurd a a'
  · exact ⟨b.trans b'.symm, c.trans c'.symm⟩
  · exact absurd (p' x ((hm x).1 hx)) nx
  · exact absurd a a'
  · exact absurd (p y ((hm y).2 hy)) ny
  · have e := can_eq M M' q q' (fun x => (r x).trans ((fr_mem hm x).trans (r' x).symm))
    exact ⟨by rw [b, b', e], e⟩
theorem FA.none {A : List Ar} {F : Int} {k : Int × Int} {z : Int} {M : List (Int × Int)} (h : FA A F k z M) (hz : z ≠ 0) : M = [] := by
  rcases h with ⟨a, b, c⟩ | ⟨a, _, b, c⟩ | ⟨a, p, q, r, b⟩
  · exact c
  · exact c
  · by_cases e : M.length = 0
    · exact List.eq_nil_of_length_eq_zero e
    · rw [if_neg e] at b; exact absurd b hz
theorem FA.bd {A : List Ar} (hA : ∀ x ∈ A, x.wf) {F : Int} {k : Int × Int} {z : Int} {M : List (Int × Int)} (h : FA A F k z M) : ∀ r ∈ M, 0 ≤ r.1 ∧ r.1 < r.2 ∧ r.2 ≤ 1048576 := by
  rcases h with ⟨a, b, c⟩ | ⟨a, _, b, c⟩ | ⟨a, p, q, s, b⟩
  · subst c; exact fun r hr => absurd hr List.not_mem_nil
  · subst c; exact fun r hr => absurd hr List.not_mem_nil
  · intro r hr
    have lt := q.1 r hr
    have in_ : ∀ n, r.1 ≤ n → n < r.2 → 0 ≤ n ∧ n < F := fun n h1 h2 => by
      obtain ⟨x, hx, hk, u1, u2⟩ := (has_use F A n).1 ((s n).1 ⟨r, hr, h1, h2⟩).1
      have w := (hA x hx).1.1
      have u1' : (x.f + 4095) / 4096 ≤ n := u1
      have u2' : n < min ((x.f + x.l) / 4096) F := u2
      constructor <;> omega
    have i1 := in_ r.1 (Int.le_refl _) lt
    have i2 := in_ (r.2 - 1) (by omega) (by omega)
    have := a.2.1
    exact ⟨i1.1, lt, by omega⟩
/-- one reserved area more adds nothing -/
theorem FA.more {A : List Ar} {y : Ar} (hy : y.k ≠ 1) (fy : Fit y) {F : Int} {k : Int × Int} {z : Int} {M K : List (Int × Int)} (h : FA A F k 0 M) (h' : FA (A ++ [y]) F k z K) : (z = 0 ∨ (z = 7 ∧ K = [])) ∧ ∀ r ∈ K, Has M r.1 ∧ Has M (r.2 - 1) := by
  rcases h with ⟨a, b, c⟩ | ⟨a, _, b, c⟩ | ⟨a, p, q, r, b⟩
  · cases b
  · cases b
  rcases h' with ⟨a', b', c'⟩ | ⟨a', ⟨x, hx, nx⟩, b', c'⟩ | ⟨a', p', q', r', b'⟩
  · exact absurd a a'
  · rcases List.mem_append.1 hx with h | h
    · exact absurd (p x h) nx
    · rw [List.mem_singleton.1 h] at nx; exact absurd fy nx
  · have sub : ∀ n, Has K n → Has M n := fun n hn => by
      have hf := (r' n).1 hn
      refine (r n).2 ⟨?_, fun q => hf.2 ?_⟩
      · obtain ⟨x, hx, hk, u⟩ := (has_use F _ n).1 hf.1
        rcases List.mem_append.1 hx with h | h
        · exact (has_use F A n).2 ⟨x, h, hk, u⟩
        · rw [List.mem_singleton.1 h] at hk; exact absurd hk hy
      · rcases (has_away k A n).1 q with h | ⟨x, hx, u⟩
        · exact (has_away k _ n).2 (Or.inl h)
        · exact (has_away k _ n).2 (Or.inr ⟨x, List.mem_append.2 (Or.inl hx), u⟩)
    refine ⟨?_, fun s hs => ?_⟩
    · by_cases e : K.length = 0
      · rw [if_pos e] at b'; exact Or.inr ⟨b', List.eq_nil_of_length_eq_zero e⟩
      · rw [if_neg e] at b'; exact Or.inl b'
    · have lt := q'.1 s hs
      exact ⟨sub _ ⟨s, hs, Int.le_refl _, lt⟩, sub _ ⟨s, hs, by omega, by omega⟩⟩
/-- two lists of bytes in the making -/
structure TB (w0 : World) (v u : Value) (A B : List Int) (W : World) : Prop where
  o1 : OL 5 1 eB W w0.heap.size v A
  o2 : OL 5 1 eB W w0.heap.size u B
  n1 : ∃ g, v.ownBlock = some g
  n2 : ∃ g, u.ownBlock = some g
  ne : ∀ g, v.ownBlock = some g → u.ownBlock ≠ some g
  bel : Below w0.heap.size w0 W
theorem TB.below {w0 W W' : World} {v u : Value} {A B : List Int} (H : TB w0 v u A B W) (hb : Below W.heap.size W W') : TB w0 v u A B W' := ⟨row_below H.o1 hb, row_below H.o2 hb, H.n1, H.n2, H.ne, below_then H.bel hb⟩
theorem ol_form {T : TypeId} {k : Nat} {α : Type} {enc : α → List Value} {w : World} {base : Nat} {v : Value} {L : List α} (O : OL T k enc w base v L) (h : ∃ g, v.ownBlock = some g) : ∃ g c, v = .slice (some ⟨g, 0, none⟩) L.length c ∧ L.length ≤ c ∧ v.ownBlock = some g := by
  obtain ⟨g, hg⟩ := h
  obtain ⟨hl, ⟨e, _⟩ | ⟨g', cap, cur, e, r1, r2, r3, r4⟩⟩ := O
  · subst e; cases hg
  · subst e; exact ⟨g', cap, rfl, r3, rfl⟩
theorem ol_cells {w : World} {base g n c : Nat} {L : List Int} (hn : n = L.length) (O : OL 5 1 eB w base (.slice (some ⟨g, 0, none⟩) n c) L) : ∀ i (hi : i < L.length), ∀ j, j < 1 → w.cell? ⟨g, 0 + i * 1 + j, none⟩ = (eB L[i])[j]? := fun i hi j hj => by
  subst hn
  rcases ol_ll eB_len O with ⟨e, _⟩ | ⟨g', o', c', e, hc, l0, lg, h⟩
  · cases e
  · cases e; exact h i hi j hj
theorem TB.step {w0 W : World} {v u : Value} {A B X : List Int} {gx cx nx : Nat} (H : TB w0 v u A B W) (hx : nx = X.length) (x1 : X.length ≤ 1000) (a1 : A.length ≤ 10000) (b1 : B.length ≤ 10000) (base : Nat) (O : OL 5 1 eB W base (.slice (some ⟨gx, 0, none⟩) nx cx) X) (fx : v.ownBlock ≠ some gx) :
    ∃ v' W1 s W2 u' W3, (Builtin.append_ #[22, 22] 22 #[v, .slice (some ⟨gx, 0, none⟩) nx cx]).run Try.prog W = .ok v' W1 ∧
      (Builtin.append_ #[22, 22] 22 #[.slice (some ⟨W1.heap.size, 0, none⟩) 0 0, .slice (some ⟨gx, 0, none⟩) nx cx]).run Try.prog (W1.alloc (.cells #[] 5)) = .ok s W2 ∧
      (Builtin.append_ #[22, 22] 22 #[s, u]).run Try.prog W2 = .ok u' W3 ∧ TB w0 v' u' (A ++ X) (X ++ B) W3 := by
  obtain ⟨v', W1, r1, ho1, hg1, hat1⟩ := app_all eB_len eB_one (by decide) Try.underlying22 infoB rfl (by decide) w0.heap.size v A X gx 0 nx cx hx (by omega) W H.o1 (ol_cells hx O) H.bel.size
  have B1 : Below w0.heap.size w0 W1 := H.bel.grown hg1 H.bel.size (fun g e => (row_lt H.o1 g e).1)
  have O1 : OL 5 1 eB W1 base (.slice (some ⟨gx, 0, none⟩) nx cx) X := row_keep O (fun g e => hg1.block g (row_lt O g e).2 (fun q => by cases e; exact fx q.symm))
  have U1 : OL 5 1 eB W1 w0.heap.size u B := row_keep H.o2 (fun g e => hg1.block g (row_lt H.o2 g e).2 (fun q => H.ne g q.symm e))
  have S1 : Src 1 eB W1 (some ⟨gx, 0, none⟩) X := fun i hi => ⟨gx, 0, rfl, (row_lt O1 gx rfl).2, ol_cells hx O1 i hi⟩
  obtain ⟨g', c', W2, r2, ho2, hb2⟩ := app_copy eB_len eB_one (by decide) Try.underlying22 infoB rfl (by decide) (some ⟨gx, 0, none⟩) nx cx X hx (by omega) W1 S1
  have lg' := (row_lt ho2 g' rfl).1
  have U2 := row_below U1 hb2
  obtain ⟨gu, cu, eu, _, hgu⟩ := ol_form U2 H.n2
  have U2' := U2
  rw [eu] at U2'
  obtain ⟨u', W3, r3, ho3, hg3, hat3⟩ := app_all eB_len eB_one (by decide) Try.underlying22 infoB rfl (by decide) W1.heap.size (.slice (some ⟨g', 0, none⟩) nx c') X B gu 0 B.length cu rfl (by omega) W2 ho2 (ol_cells rfl U2') hb2.size
  have n1' : ∃ g, v'.ownBlock = some g := by
    rcases hat1 with h | h
    · rw [h]; exact H.n1
    · exact ⟨_, h⟩
  have n2' : ∃ g, u'.ownBlock = some g := by
    rcases hat3 with h | h
    · exact ⟨g', by rw [h]; rfl⟩
    · exact ⟨_, h⟩
  have V2 := row_below ho1 hb2
  have lv : ∀ g, v'.ownBlock = some g → g < W1.heap.size := fun g e => (row_lt ho1 g e).2
  refine ⟨v', W1, _, W2, u', W3, r1, r2, by rw [eu]; exact r3, row_keep V2 (fun g e => hg3.block g (row_lt V2 g e).2 (fun q => by have h1 := lv g e; have h2 : g = g' := Option.some.inj q; omega)), row_weak ho3 B1.size, n1', n2', fun g e h => ?_, ?_⟩
  · have := lv g e
    have := (row_lt ho3 g h).1
    omega
  · exact (below_then B1 hb2).grown hg3 (below_then B1 hb2).size (fun g e => by have h2 : g' = g := Option.some.inj e; have := B1.size; omega)
end Go.Proofs.Ytkgjeemecpigpaa.Bm
