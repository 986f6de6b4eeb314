/- The translations' store: what holds behind any calls; calls that come in. -/
import Derived.Test.YtihedjlcjkbjfaaU3
import Derived.Deep.Slices
namespace Go.Proofs.Ytihedjlcjkbjfaa
open Go.ChangeShapes Go.WideShapes Go.ChangeAt Go.RowKit Go.Maps
set_option linter.unusedSimpArgs false
set_option linter.unusedVariables false
set_option maxRecDepth 8000

/-- each line stands in its set, and at most one fits a tag and a page -/
structure GoodL (T : Nat → Ln) : Prop where
  place : ∀ i, i < 16 → (T i).v = true → 0 ≤ (T i).p ∧ i / 2 = ((T i).p % 8).toNat
  uniq : ∀ i j, i < 16 → j < 16 → i ≠ j → (T i).v = true → (T j).v = true → (T i).p = (T j).p → (T i).t ≠ (T j).t ∧ (T i).g = false ∧ (T j).g = false
theorem good_zero : GoodL T0 := ⟨fun i _ h => by simp [T0, Ln.zero] at h, fun i j _ _ _ h => by simp [T0, Ln.zero] at h⟩
theorem GoodL.less {T T' : Nat → Ln} (g : GoodL T) (h : ∀ i, i < 16 → T' i = T i ∨ (T' i).v = false) : GoodL T' := by
  have e : ∀ i, i < 16 → (T' i).v = true → T' i = T i := fun i hi hv => by
    rcases h i hi with a | a
    · exact a
    · rw [hv] at a; simp at a
  refine ⟨fun i hi hv => ?_, fun i j hi hj hne hv hw hp => ?_⟩
  · have e1 := e i hi hv
    rw [e1] at hv ⊢; exact g.place i hi hv
  · have e1 := e i hi hv
    have e2 := e j hj hw
    rw [e1] at hv hp ⊢
    rw [e2] at hw hp ⊢
    exact g.uniq i j hi hj hne hv hw hp
theorem drop_less (T : Nat → Ln) (f : Ln → Bool) (i : Nat) (hi : i < 16) : dropT T f 16 i = T i ∨ (dropT T f 16 i).v = false := by
  unfold dropT
  rw [if_pos hi]
  by_cases c : f (T i) = true
  · rw [if_pos c]; exact Or.inr rfl
  · rw [if_neg c]; exact Or.inl rfl
theorem drop_kept (T : Nat → Ln) (f : Ln → Bool) (i : Nat) (hi : i < 16) (h : (dropT T f 16 i).v = true) : dropT T f 16 i = T i ∧ f (T i) = false := by
  unfold dropT at h ⊢
  rw [if_pos hi] at h ⊢
  by_cases c : f (T i) = true
  · rw [if_pos c] at h; simp [Ln.zero] at h
  · rw [if_neg c]; exact ⟨rfl, by simpa using c⟩
theorem GoodL.drop {T : Nat → Ln} (g : GoodL T) (f : Ln → Bool) : GoodL (dropT T f 16) := g.less (fun i hi => drop_less T f i hi)
theorem GoodL.evict {T : Nat → Ln} (g : GoodL T) (i0 : Nat) : GoodL (evictT T i0) := g.less (fun i hi => by
  unfold evictT
  by_cases c : i = i0
  · rw [if_pos c]; exact Or.inr rfl
  · rw [if_neg c]; exact Or.inl rfl)
theorem GoodL.fill {T : Nat → Ln} (g : GoodL T) (y : Int) (l : Ln) (hy : 0 ≤ y ∧ y < 2) (hl : l.ok = true) : GoodL (fillT T y l) := by
  have gd := g.drop l.beats
  have lp : 0 ≤ l.p := by unfold Ln.ok at hl; simp at hl; omega
  obtain ⟨i0, hi0⟩ : ∃ i0, 2 * (l.p % 8).toNat + y.toNat = i0 := ⟨_, rfl⟩
  have i6 : i0 < 16 := by omega
  have e0 : fillT T y l i0 = l := by unfold fillT; rw [hi0, if_pos rfl]
  have eo : ∀ i, i ≠ i0 → fillT T y l i = dropT T l.beats 16 i := fun i c => by unfold fillT; rw [hi0, if_neg c]
  have key : ∀ j, j < 16 → j ≠ i0 → (dropT T l.beats 16 j).v = true → l.p = (dropT T l.beats 16 j).p → l.t ≠ (dropT T l.beats 16 j).t ∧ l.g = false ∧ (dropT T l.beats 16 j).g = false := fun j hj c hv hp => by
    obtain ⟨e1, e2⟩ := drop_kept T l.beats j hj hv
    rw [e1] at hv hp ⊢
    unfold Ln.beats Ln.fits at e2
    rw [hv, hp] at e2
    simp at e2
    refine ⟨fun q => e2.1.1 q.symm, ?_, e2.1.2⟩
    exact e2.2
  refine ⟨fun i hi hv => ?_, fun i j hi hj hne hv hw hp => ?_⟩
  · by_cases c : i = i0
    · subst c; rw [e0]; exact ⟨lp, by omega⟩
    · rw [eo i c] at hv ⊢; exact gd.place i hi hv
  · by_cases c : i = i0
    · subst c
      rw [eo j (fun q => hne q.symm)] at hw hp ⊢
      rw [e0] at hp ⊢
      exact key j hj (fun q => hne q.symm) hw hp
    · rw [eo i c] at hv hp ⊢
      by_cases d : j = i0
      · subst d
        rw [e0] at hp ⊢
        obtain ⟨a1, a2, a3⟩ := key i hi c hv hp.symm
        exact ⟨fun q => a1 q.symm, a3, a2⟩
      · rw [eo j d] at hw hp ⊢; exact gd.uniq i j hi hj hne hv hw hp
theorem GoodL.does {T : Nat → Ln} (g : GoodL T) (k a c : Int) (l : Ln) : GoodL (doesL T k a c l) := by
  unfold doesL
  by_cases q1 : k = 1
  · rw [if_pos q1]
    by_cases h : (0 ≤ a ∧ a < 2) ∧ l.ok = true
    · rw [if_pos h]; exact g.fill a l h.1 h.2
    · rw [if_neg h]; exact g
  rw [if_neg q1]
  by_cases q2 : k = 2
  · rw [if_pos q2]
    by_cases h : (0 ≤ a ∧ a < 8) ∧ (0 ≤ c ∧ c < 2)
    · rw [if_pos h]; exact g.evict _
    · rw [if_neg h]; exact g
  rw [if_neg q2]
  by_cases q3 : k = 3
  · rw [if_pos q3]; exact g.drop _
  rw [if_neg q3]
  by_cases q4 : k = 4
  · rw [if_pos q4]; exact g.drop _
  rw [if_neg q4]
  by_cases q5 : k = 5
  · rw [if_pos q5]; exact g.drop _
  · rw [if_neg q5]; exact g
theorem fits_says {l : Ln} {tag page : Int} (h : l.fits tag page = true) : l.v = true ∧ l.p = page ∧ (l.t = tag ∨ l.g = true) := by
  unfold Ln.fits at h
  simp at h; exact h
/-- at most one line fits -/
theorem fits_one {T : Nat → Ln} (g : GoodL T) (tag page : Int) (i j : Nat) (hi : i < 16) (hj : j < 16) (a : (T i).fits tag page = true) (b : (T j).fits tag page = true) : i = j := by
  by_cases c : i = j
  · exact c
  · exfalso
    obtain ⟨a1, a2, a3⟩ := fits_says a
    obtain ⟨b1, b2, b3⟩ := fits_says b
    obtain ⟨u1, u2, u3⟩ := g.uniq i j hi hj c a1 b1 (a2.trans b2.symm)
    rcases a3 with a3 | a3
    · rcases b3 with b3 | b3
      · exact u1 (a3.trans b3.symm)
      · rw [u3] at b3; simp at b3
    · rw [u2] at a3; simp at a3
/-- what is found -/
theorem find_yes {T : Nat → Ln} (g : GoodL T) (tag page : Int) (i : Nat) (hi : i < 16) (h : (T i).fits tag page = true) : findT T tag page = (T i, true) := by
  obtain ⟨a1, a2, a3⟩ := fits_says h
  obtain ⟨b1, b2⟩ := g.place i hi a1
  rw [a2] at b1 b2
  unfold findT
  rw [if_neg (by omega)]
  by_cases c : i = 2 * (page % 8).toNat
  · rw [← c, if_pos h]
  · have c1 : i = 2 * (page % 8).toNat + 1 := by omega
    have n0 : ¬ (T (2 * (page % 8).toNat)).fits tag page = true := fun q => c (fits_one g tag page i _ hi (by omega) h q)
    rw [if_neg n0, ← c1, if_pos h]
theorem find_no {T : Nat → Ln} (tag page : Int) (h : ∀ i, i < 16 → (T i).fits tag page = false) : findT T tag page = (Ln.zero, false) := by
  unfold findT
  by_cases c : page < 0
  · rw [if_pos c]
  · rw [if_neg c, if_neg (by rw [h _ (by omega)]; simp), if_neg (by rw [h _ (by omega)]; simp)]
theorem find_cases {T : Nat → Ln} (g : GoodL T) (tag page : Int) : (∃ i, i < 16 ∧ (T i).fits tag page = true ∧ findT T tag page = (T i, true)) ∨ ((∀ i, i < 16 → (T i).fits tag page = false) ∧ findT T tag page = (Ln.zero, false)) := by
  by_cases c : ∃ i, i < 16 ∧ (T i).fits tag page = true
  · obtain ⟨i, a, b⟩ := c
    exact Or.inl ⟨i, a, b, find_yes g tag page i a b⟩
  · have h : ∀ i, i < 16 → (T i).fits tag page = false := fun i hi => by
      by_cases d : (T i).fits tag page = true
      · exact absurd ⟨i, hi, d⟩ c
      · simpa using d
    exact Or.inr ⟨h, find_no tag page h⟩
/-- how many of these fit -/
def cntF (tag page : Int) : List Ln → Int
  | [] => 0
  | l :: r => (if (l.p == page && (l.t == tag || l.g)) = true then 1 else 0) + cntF tag page r
theorem cntF_append (tag page : Int) (k : List Ln) : ∀ l, cntF tag page (l ++ k) = cntF tag page l + cntF tag page k
  | [] => by show cntF tag page k = 0 + _; omega
  | a :: l => by rw [List.cons_append, cntF, cntF, cntF_append tag page k l]; omega
def fit1 (T : Nat → Ln) (tag page : Int) (i : Nat) : Int := if (T i).fits tag page = true then 1 else 0
def smL (f : Nat → Int) : Nat → Int
  | 0 => 0
  | n + 1 => smL f n + f n
theorem cntF_lines (T : Nat → Ln) (tag page : Int) : ∀ n, cntF tag page (linesT T n) = smL (fit1 T tag page) n
  | 0 => rfl
  | n + 1 => by
    rw [linesT, cntF_append, cntF_lines T tag page n, smL]
    congr 1
    unfold fit1 Ln.fits
    by_cases c : (T n).v = true
    · rw [if_pos c, c]; show _ + 0 = _; simp
    · rw [if_neg c]
      have c' : (T n).v = false := by simpa using c
      rw [c']; simp; rfl
theorem smL_zero {f : Nat → Int} : ∀ n, (∀ j, j < n → f j = 0) → smL f n = 0
  | 0, _ => rfl
  | n + 1, h => by rw [smL, smL_zero n (fun j hj => h j (by omega)), h n (by omega)]; rfl
theorem smL_one {f : Nat → Int} (i : Nat) (hf : f i = 1) : ∀ n, i < n → (∀ j, j < n → j ≠ i → f j = 0) → smL f n = 1
  | 0, h, _ => absurd h (Nat.not_lt_zero _)
  | n + 1, h, e => by
    rw [smL]
    by_cases c : i = n
    · subst c; rw [smL_zero i (fun j hj => e j (by omega) (by omega)), hf]; rfl
    · rw [smL_one i hf n (by omega) (fun j hj => e j (by omega)), e n (by omega) (fun q => c q.symm)]; rfl
theorem one_says {T : Nat → Ln} (g : GoodL T) (tag page : Int) : (cntF tag page (linesT T 16) = 1 ∧ (findT T tag page).2 = true) ∨ (cntF tag page (linesT T 16) = 0 ∧ (findT T tag page).2 = false) := by
  rw [cntF_lines]
  rcases find_cases g tag page with ⟨i, a, b, c⟩ | ⟨a, c⟩
  · left
    rw [c]
    refine ⟨smL_one i (by unfold fit1; rw [if_pos b]) 16 a (fun j hj hne => ?_), rfl⟩
    unfold fit1
    rw [if_neg (fun q => hne (fits_one g tag page j i hj a q b))]
  · right
    rw [c]
    exact ⟨smL_zero 16 (fun j hj => by unfold fit1; rw [a j hj]; simp), rfl⟩
/-- a row of lines -/
def IsLines (w : World) (base : Nat) (p : Option Addr) (L : List Ln) : Prop := ∀ i, i < L.length → ∃ g, p = some ⟨g, 0, none⟩ ∧ base ≤ g ∧ g < w.heap.size ∧ ∀ j x, (L.getD i Ln.zero).enc[j]? = some x → w.cell? ⟨g, i * 9 + j, none⟩ = some x
theorem IsLines.below {w w' : World} {base : Nat} {p : Option Addr} {L : List Ln} (h : IsLines w base p L) (hb : Below w.heap.size w w') : IsLines w' base p L := fun i hi => by
  obtain ⟨g, e, l1, l2, c⟩ := h i hi
  exact ⟨g, e, l1, Nat.lt_of_lt_of_le l2 hb.size, fun j x hx => (hb.cell (p := ⟨g, i * 9 + j, none⟩) l2).trans (c j x hx)⟩
theorem flat_enc : ∀ (L : List Ln) (i j : Nat), i < L.length → j < 9 → (L.flatMap Ln.enc)[i * 9 + j]? = (L.getD i Ln.zero).enc[j]?
  | [], i, j, h, _ => absurd h (Nat.not_lt_zero _)
  | l :: r, 0, j, h, hj => by
    rw [List.flatMap_cons, List.getElem?_append_left (by rw [enc_len]; omega)]
    simp [List.getD]
  | l :: r, i + 1, j, h, hj => by
    rw [List.flatMap_cons, List.getElem?_append_right (by rw [enc_len]; omega), enc_len, show (i + 1) * 9 + j - 9 = i * 9 + j by omega, flat_enc r i j (by simpa using h) hj]
    simp [List.getD]
theorem lines_read {w : World} {base : Nat} {v : Value} {L : List Ln} (h : w.ownsRow base 54 9 v L.length (L.flatMap Ln.enc)) : ∃ p c, v = .slice p L.length c ∧ IsLines w base p L := by
  obtain ⟨h1, h2 | ⟨g, cap, cur, e1, e2, e3, e4, e5, e6, e7⟩⟩ := h
  · refine ⟨none, 0, by rw [h2.1, h2.2], fun i hi => ?_⟩
    rw [h2.2] at hi; exact absurd hi (Nat.not_lt_zero _)
  · refine ⟨_, cap, e1, fun i hi => ⟨g, rfl, e2, (Array.getElem?_eq_some_iff.1 e3).1, fun j x hx => ?_⟩⟩
    have hj : j < 9 := (List.getElem?_eq_some_iff.1 hx).1
    rw [Go.Joins.cell_of_block e3 _]
    have : (cur.toList.take (L.length * 9))[i * 9 + j]? = (L.flatMap Ln.enc)[i * 9 + j]? := by rw [e7]
    rw [List.getElem?_take, if_pos (by omega), Array.getElem?_toList, flat_enc L i j hi hj] at this
    rw [this]; exact hx
theorem lines_call (b : Nat) (T : Nat → Ln) (w : World) (h : IsTlb w b T) :
    Calls Try.prog 23 #[.pointer (some ⟨b, 0, none⟩)] w fun e w' => (∃ p c, e = .returned (.slice p (linesT T 16).length c) ∧ IsLines w' w.heap.size p (linesT T 16)) ∧ Below w.heap.size w w' :=
  (lines_any b T w h).mono fun e w' ⟨v, h1, h2, h3⟩ => by
    obtain ⟨p, c, rfl, h4⟩ := lines_read h2
    exact ⟨⟨p, c, h1, h4⟩, h3⟩
theorem cntF_take (tag page : Int) (L : List Ln) (m : Nat) (h : m < L.length) : cntF tag page (L.take (m + 1)) = cntF tag page (L.take m) + (if ((L.getD m Ln.zero).p == page && ((L.getD m Ln.zero).t == tag || (L.getD m Ln.zero).g)) = true then 1 else 0) := by
  rw [List.take_add_one, cntF_append, List.getElem?_eq_getElem h]
  have : L.getD m Ln.zero = L[m] := by rw [List.getD, List.getElem?_eq_getElem h]; rfl
  rw [this]
  show _ + (_ + 0) = _
  omega
/-- calls that come in -/
def IsActs (w : World) (p : Option Addr) (n : Nat) (K A C : Nat → Int) (L : Nat → Ln) : Prop := ∀ i, i < n → ∃ b o, p = some ⟨b, o, none⟩ ∧ b < w.heap.size ∧ w.rangeAt b (o + i * 12) ([.int .i64 (K i), .int .i64 (A i), .int .i64 (C i)] ++ (L i).enc)
theorem range_below {w w' : World} {b o : Nat} {cs : List Value} (h : w.rangeAt b o cs) (hl : b < w.heap.size) (hb : Below w.heap.size w w') : w'.rangeAt b o cs := fun j v hv => (hb.cell (p := ⟨b, o + j, none⟩) hl).trans (h j v hv)
theorem IsActs.below {w w' : World} {p : Option Addr} {n : Nat} {K A C : Nat → Int} {L : Nat → Ln} (h : IsActs w p n K A C L) (hb : Below w.heap.size w w') : IsActs w' p n K A C L := fun i hi => by
  obtain ⟨b, o, e, l, c⟩ := h i hi
  exact ⟨b, o, e, Nat.lt_of_lt_of_le l hb.size, range_below c l hb⟩
theorem list9 {α : Type} {cs : List α} (h : cs.length = 9) : ∃ c0 c1 c2 c3 c4 c5 c6 c7 c8, cs = [c0, c1, c2, c3, c4, c5, c6, c7, c8] := by
  match cs, h with
  | [c0, c1, c2, c3, c4, c5, c6, c7, c8], _ => exact ⟨c0, c1, c2, c3, c4, c5, c6, c7, c8, rfl⟩
theorem line_cells {H : Type} {enc : TypeId × Value → H} {W : World} {base : Nat} {sp : Nat → Bool} {held : Bool} {fuel : Nat} {cs : List Value} {x : DataW H × List MemPlace}
    (hf : DataW.trod enc Try.prog W base sp held fuel 54 cs = some x) (hlen9 : cs.length = 9) : ∃ l : Ln, cs = l.enc := by
  obtain ⟨c0, c1, c2, c3, c4, c5, c6, c7, c8, rfl⟩ := list9 hlen9
  obtain ⟨xs, n, _, _, hl, hlen, hf⟩ := DataW.trod_struct Try.underlying54 hf
  have hg : ∀ i, i < 7 → ∃ y, xs[i]? = some y := fun i hi => ⟨_, List.getElem?_eq_getElem (by rw [hlen]; exact hi)⟩
  obtain ⟨y0, k0⟩ := hg 0 (by omega)
  obtain ⟨y1, k1⟩ := hg 1 (by omega)
  obtain ⟨y2, k2⟩ := hg 2 (by omega)
  obtain ⟨y3, k3⟩ := hg 3 (by omega)
  obtain ⟨y4, k4⟩ := hg 4 (by omega)
  obtain ⟨y5, k5⟩ := hg 5 (by omega)
  obtain ⟨y6, k6⟩ := hg 6 (by omega)
  obtain ⟨a0, e0, _⟩ := DataW.trod_bool Try.underlying4 ((hf 0 _ rfl).trans k0)
  obtain ⟨a1, e1, _, w1⟩ := DataW.trod_int Try.underlying3 ((hf 1 _ rfl).trans k1)
  obtain ⟨a2, e2, _, w2⟩ := DataW.trod_int Try.underlying3 ((hf 2 _ rfl).trans k2)
  obtain ⟨a3, e3, _, w3⟩ := DataW.trod_int Try.underlying3 ((hf 3 _ rfl).trans k3)
  obtain ⟨zs, m, _, _, jl, jlen, jf⟩ := DataW.trod_struct Try.underlying52 ((hf 4 _ rfl).trans k4)
  have jg : ∀ i, i < 3 → ∃ y, zs[i]? = some y := fun i hi => ⟨_, List.getElem?_eq_getElem (by rw [jlen]; exact hi)⟩
  obtain ⟨z0, m0⟩ := jg 0 (by omega)
  obtain ⟨z1, m1⟩ := jg 1 (by omega)
  obtain ⟨z2, m2⟩ := jg 2 (by omega)
  obtain ⟨a4, e4, _⟩ := DataW.trod_bool Try.underlying4 ((jf 0 _ rfl).trans m0)
  obtain ⟨a5, e5, _⟩ := DataW.trod_bool Try.underlying4 ((jf 1 _ rfl).trans m1)
  obtain ⟨a6, e6, _⟩ := DataW.trod_bool Try.underlying4 ((jf 2 _ rfl).trans m2)
  obtain ⟨a7, e7, _⟩ := DataW.trod_bool Try.underlying4 ((hf 5 _ rfl).trans k5)
  obtain ⟨a8, e8, _⟩ := DataW.trod_bool Try.underlying4 ((hf 6 _ rfl).trans k6)
  obtain rfl := cell_of cellsB e0 (c := c0) rfl
  obtain rfl := cell_of cellsI e1 (c := c1) rfl
  obtain rfl := cell_of cellsI e2 (c := c2) rfl
  obtain rfl := cell_of cellsI e3 (c := c3) rfl
  obtain rfl := cell_of2 (n := 4) (k := 0) cellsP (by omega) cellsB e4 (c := c4) rfl
  obtain rfl := cell_of2 (n := 4) (k := 1) cellsP (by omega) cellsB e5 (c := c5) rfl
  obtain rfl := cell_of2 (n := 4) (k := 2) cellsP (by omega) cellsB e6 (c := c6) rfl
  obtain rfl := cell_of cellsB e7 (c := c7) rfl
  obtain rfl := cell_of cellsB e8 (c := c8) rfl
  exact ⟨⟨_, _, _, _, _, _, _, _, _⟩, rfl⟩
theorem cellsA : Try.prog.cellsOf 64 = 12 := by kernel_rfl
theorem lt_of_cell {w : World} {a : Addr} {v : Value} (h : w.cell? a = some v) : a.block < w.heap.size := by
  unfold World.cell? at h
  by_cases c : a.block < w.heap.size
  · exact c
  · rw [Array.getElem?_eq_none (by omega)] at h
    simp at h
instance : Inhabited Ln := ⟨Ln.zero⟩
theorem open_acts {H : Type} {enc : TypeId × Value → H} {W : World} {base : Nat} {sp : Nat → Bool} {held : Bool} {v : Value} {x : DataW H} {ps : List MemPlace} {r : Reach} {b0 : Nat}
    (hv : Value.okWide Try.prog W r b0 50 v) (h : DataW.Trod enc Try.prog W base sp held 50 v x ps) :
    ∃ (p : Option Addr) (n c : Nat) (K A C : Nat → Int) (L : Nat → Ln), v = .slice p n c ∧ n ≤ maxLen ∧ IsActs W p n K A C L := by
  obtain ⟨a', l', c', rfl⟩ := okWide_slice Try.underlying50 hv
  obtain ⟨fuel, hf⟩ := h
  rcases Go.Deep.open_slice Try.underlying50 hf with ⟨e, _⟩ | ⟨a, len, cap, m, k, D, Pl, e, hb, hl, hm, hmm, hx, hel⟩
  · have e' : Value.slice a' l' c' = .slice none 0 0 := (List.cons.inj (show [Value.slice a' l' c'] = [.slice none 0 0] from e)).1
    exact ⟨none, 0, 0, fun _ => 0, fun _ => 0, fun _ => 0, fun _ => Ln.zero, e', by omega, fun i hi => absurd hi (Nat.not_lt_zero _)⟩
  · have e' : Value.slice a' l' c' = .slice (some a) len cap := (List.cons.inj (show [Value.slice a' l' c'] = [.slice (some a) len cap] from e)).1
    have hlm : len ≤ m := by rw [hmm]; split <;> omega
    rw [e']
    have each : ∀ i, i < len → ∃ q : Int × Int × Int × Ln, a.spot = none ∧ a.block < W.heap.size ∧ W.rangeAt a.block (a.off + i * 12) ([.int .i64 q.1, .int .i64 q.2.1, .int .i64 q.2.2.1] ++ q.2.2.2.enc) := fun i hi => by
      obtain ⟨cs', h1, h2⟩ := hel i (by omega)
      obtain ⟨c2', h3, _⟩ := hel 0 (by omega)
      rw [cellsA] at h1 h3
      obtain ⟨_, hlen, hcell⟩ := World.cells?_some h1
      obtain ⟨_, hlen3, hcell3⟩ := World.cells?_some h3
      have hspot : a.spot = none := by
        have := hcell3 0 (by omega)
        simpa [Addr.add] using World.cell?_spot (this.trans (List.getElem?_eq_getElem (by omega)))
      obtain ⟨xs, kk, _, _, _, hxl, hfld⟩ := DataW.trod_struct Try.underlying64 h2
      have hg : ∀ j, j < 4 → ∃ y, xs[j]? = some y := fun j hj => ⟨_, List.getElem?_eq_getElem (by rw [hxl]; exact hj)⟩
      obtain ⟨y0, k0⟩ := hg 0 (by omega)
      obtain ⟨y1, k1⟩ := hg 1 (by omega)
      obtain ⟨y2, k2⟩ := hg 2 (by omega)
      obtain ⟨y3, k3⟩ := hg 3 (by omega)
      obtain ⟨a0, e0, _, _⟩ := DataW.trod_int Try.underlying3 ((hfld 0 _ rfl).trans k0)
      obtain ⟨a1, e1, _, _⟩ := DataW.trod_int Try.underlying3 ((hfld 1 _ rfl).trans k1)
      obtain ⟨a2, e2, _, _⟩ := DataW.trod_int Try.underlying3 ((hfld 2 _ rfl).trans k2)
      have e3 : DataW.trod enc Try.prog W base sp held kk 54 ((cs'.drop 3).take (Try.prog.cellsOf 54)) = some y3 := (hfld 3 _ rfl).trans k3
      rw [cellsL] at e3
      obtain ⟨l, hl9⟩ := line_cells e3 (by rw [List.length_take, List.length_drop]; omega)
      have g : ∀ j z, (cs'.drop j).take (Try.prog.cellsOf 3) = [z] → cs'[j]? = some z := fun j z hz => by
        rw [cellsI] at hz
        have : ((cs'.drop j).take 1)[0]? = some z := by rw [hz]; rfl
        rw [List.getElem?_take, if_pos (by omega), List.getElem?_drop] at this
        simpa using this
      have ad : ∀ j, (a.add (i * 12)).add j = ⟨a.block, a.off + i * 12 + j, none⟩ := fun j => by
        rw [Go.Deep.add_add]
        unfold Addr.add
        by_cases c : i * 12 + j = 0
        · rw [if_pos c]
          have : i * 12 = 0 ∧ j = 0 := by omega
          obtain ⟨bb, oo, ss⟩ := a
          simp only at hspot
          subst hspot
          simp [this.1, this.2]
        · rw [if_neg c]; simp; try omega
      have f0 : cs'[0]? = some (.int .i64 a0) := g 0 _ e0
      have f1 : cs'[1]? = some (.int .i64 a1) := g 1 _ e1
      have f2 : cs'[2]? = some (.int .i64 a2) := g 2 _ e2
      have fl : ∀ j, j < 9 → cs'[3 + j]? = l.enc[j]? := fun j hj => by
        rw [← hl9, List.getElem?_take, if_pos hj, List.getElem?_drop]
      have all : W.rangeAt a.block (a.off + i * 12) ([.int .i64 a0, .int .i64 a1, .int .i64 a2] ++ l.enc) := fun j z hz => by
        have hj : j < 12 := by
          have := (List.getElem?_eq_some_iff.1 hz).1
          rw [List.length_append, enc_len] at this
          simpa using this
        have hc := hcell j hj
        rw [ad] at hc
        rw [hc]
        match j, hj with
        | 0, _ => rw [f0]; exact hz
        | 1, _ => rw [f1]; exact hz
        | 2, _ => rw [f2]; exact hz
        | j + 3, hj =>
          rw [show j + 3 = 3 + j by omega, fl j (by omega)]
          rw [List.getElem?_append_right (by simp)] at hz
          simpa using hz
      exact ⟨(a0, a1, a2, l), hspot, (by have := lt_of_cell (all 0 _ rfl); exact this), all⟩
    obtain ⟨q, hq⟩ := Go.Deep.choose_lt each
    refine ⟨some a, len, cap, fun i => (q i).1, fun i => (q i).2.1, fun i => (q i).2.2.1, fun i => (q i).2.2.2, rfl, by omega, fun i hi => ?_⟩
    obtain ⟨s, l, c0⟩ := hq i hi
    obtain ⟨bb, oo, ss⟩ := a
    simp only at s
    subst s
    exact ⟨bb, oo, rfl, l, c0⟩
theorem IsTlb.grown {w w' : World} {b c : Nat} {T : Nat → Ln} (h : IsTlb w b T) (hg : w.grownBy w' (some c)) (ne : b ≠ c) : IsTlb w' b T := by
  obtain ⟨h1, h2, h3⟩ := h
  have eb : w'.heap[b]? = w.heap[b]? := hg.block b h3 (fun e => ne (Option.some.inj e))
  refine ⟨fun i hi j v hv => ?_, fun j hj => ?_, Nat.lt_of_lt_of_le h3 hg.size⟩
  · exact cell_grown hg h3 ne (h1 i hi j v hv)
  · have := h2 j hj
    rw [World.cell?_of_block (w := w) (w' := w') (a := ⟨b, 0 + j, none⟩) eb]
    refine ⟨this.1, ?_⟩
    have e2 : w'.frozen? ⟨b, 0 + j, none⟩ = w.frozen? ⟨b, 0 + j, none⟩ := by unfold World.frozen?; rw [eb]
    rw [e2]; exact this.2
end Go.Proofs.Ytihedjlcjkbjfaa
