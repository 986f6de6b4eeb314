/- Tags: what holds behind any calls; the laws awake; calls that come in. -/
import Derived.Test.YtbdakoijhpobdaaK2
import Derived.Deep.Slices
namespace Go.Proofs.Ytbdakoijhpobdaa
open Go.ChangeShapes Go.WideShapes Go.ChangeAt Go.RowKit Go.Maps
set_option linter.unusedSimpArgs false
set_option linter.unusedVariables false

/-- what holds behind any calls -/
structure Good (S : Tg) : Prop where
  ok : Ok S
  low : ∀ s t, S.T s = some t → 1 ≤ t ∧ t < S.next
  to : ∀ s t, S.T s = some t → S.O t = some s
  back : ∀ t s, S.O t = some s → S.T s = some t
theorem fresh_good (m : Int) (h0 : 1 ≤ m) (h1 : m ≤ 4095) : Good (freshS m) := ⟨fresh_ok m h0 h1, fun s t e => (by cases e), fun s t e => (by cases e), fun s t e => (by cases e)⟩
theorem get_cases (S : Tg) (s : Int) : (∃ t, S.T s = some t ∧ getV S s = t ∧ getB S s = false ∧ getS S s = S) ∨ (S.T s = none ∧ S.most < S.next ∧ getV S s = 1 ∧ getB S s = true ∧ getS S s = ⟨S.most, 2, S.gen + 1, setF noneF s (some 1), setF noneF 1 (some s)⟩) ∨
    (S.T s = none ∧ S.next ≤ S.most ∧ getV S s = S.next ∧ getB S s = false ∧ getS S s = ⟨S.most, S.next + 1, S.gen, setF S.T s (some S.next), setF S.O S.next (some s)⟩) := by
  unfold getV getB getS
  cases e : S.T s with
  | some t => exact Or.inl ⟨t, rfl, rfl, rfl, rfl⟩
  | none =>
    by_cases c : S.most < S.next
    · exact Or.inr (Or.inl ⟨rfl, c, if_pos c, decide_eq_true c, if_pos c⟩)
    · exact Or.inr (Or.inr ⟨rfl, by omega, if_neg c, decide_eq_false c, if_neg c⟩)
theorem Good.get {S : Tg} (h : Good S) (s : Int) : Good (getS S s) := by
  rcases get_cases S s with ⟨t, _, _, _, e⟩ | ⟨q, c, _, _, e⟩ | ⟨q, c, _, _, e⟩
  · rw [e]; exact h
  · refine ⟨(h.ok.get s).1, ?_, ?_, ?_⟩ <;> rw [e]
    · intro j t x
      by_cases d : j = s
      · subst d; simp only [set_same] at x; cases x; exact ⟨by omega, by show (1 : Int) < 2; omega⟩
      · simp only [set_other _ _ _ _ d] at x; cases x
    · intro j t x
      by_cases d : j = s
      · subst d; simp only [set_same] at x; cases x; exact set_same noneF 1 (some j)
      · simp only [set_other _ _ _ _ d] at x; cases x
    · intro t j x
      by_cases d : t = 1
      · subst d; simp only [set_same] at x; cases x; exact set_same noneF s (some 1)
      · simp only [set_other _ _ _ _ d] at x; cases x
  · refine ⟨(h.ok.get s).1, ?_, ?_, ?_⟩ <;> rw [e]
    · intro j t x
      have n0 := h.ok.n0
      by_cases d : j = s
      · subst d; simp only [set_same] at x; cases x; exact ⟨n0, by show S.next < S.next + 1; omega⟩
      · simp only [set_other _ _ _ _ d] at x; have := h.low j t x; exact ⟨this.1, by show t < S.next + 1; omega⟩
    · intro j t x
      by_cases d : j = s
      · subst d; simp only [set_same] at x; cases x; exact set_same S.O S.next (some j)
      · simp only [set_other _ _ _ _ d] at x
        have := h.low j t x
        show setF S.O S.next (some s) t = some j
        rw [set_other _ _ _ _ (by omega)]; exact h.to j t x
    · intro t j x
      by_cases d : t = S.next
      · subst d; simp only [set_same] at x; cases x; exact set_same S.T s (some S.next)
      · simp only [set_other _ _ _ _ d] at x
        have y := h.back t j x
        show setF S.T s (some S.next) j = some t
        rw [set_other _ _ _ _ (by rintro rfl; rw [q] at y; cases y)]; exact y
theorem Good.drop {S : Tg} (h : Good S) (s : Int) : Good (dropS S s) := by
  refine ⟨(h.ok.drop s).1, ?_, ?_, ?_⟩ <;> unfold dropS <;> cases e : S.T s with
  | none => first | exact h.low | exact h.to | exact h.back
  | some t =>
    first
    | (intro j v x
       by_cases d : j = s
       · subst d; simp only [set_same] at x; cases x
       · simp only [set_other _ _ _ _ d] at x; exact h.low j v x)
    | (intro j v x
       by_cases d : j = s
       · subst d; simp only [set_same] at x; cases x
       · simp only [set_other _ _ _ _ d] at x
         have y := h.to j v x
         show setF S.O t none v = some j
         rw [set_other _ _ _ _ (by rintro rfl; rw [h.to s v e] at y; exact d (Option.some.inj y).symm)]; exact y)
    | (intro v j x
       by_cases d : v = t
       · subst d; simp only [set_same] at x; cases x
       · simp only [set_other _ _ _ _ d] at x
         have y := h.back v j x
         show setF S.T s none j = some v
         rw [set_other _ _ _ _ (by rintro rfl; rw [e] at y; exact d (Option.some.inj y).symm)]; exact y)
/-- behind a Get: the space has that tag, the tag is the space's, and to ask again changes nothing -/
theorem get_facts {S : Tg} (h : Good S) (s : Int) : (getS S s).T s = some (getV S s) ∧ (getS S s).O (getV S s) = some s ∧ 1 ≤ getV S s ∧ getV S s ≤ S.most ∧ getV (getS S s) s = getV S s ∧ getB (getS S s) s = false ∧ getS (getS S s) s = getS S s := by
  have n0 := h.ok.n0; have n1 := h.ok.n1; have m0 := h.ok.m0
  have key : (getS S s).T s = some (getV S s) ∧ 1 ≤ getV S s ∧ getV S s ≤ S.most := by
    rcases get_cases S s with ⟨t, q, e1, _, e2⟩ | ⟨q, c, e1, _, e2⟩ | ⟨q, c, e1, _, e2⟩
    · rw [e1, e2]; have := h.low s t q; exact ⟨q, by omega, by omega⟩
    · rw [e1, e2]; exact ⟨set_same _ _ _, by omega, by omega⟩
    · rw [e1, e2]; exact ⟨set_same _ _ _, by omega, by omega⟩
  obtain ⟨k1, k2, k3⟩ := key
  refine ⟨k1, (h.get s).to _ _ k1, k2, k3, ?_⟩
  rcases get_cases (getS S s) s with ⟨t, q, e1, e2, e3⟩ | ⟨q, _⟩ | ⟨q, _⟩
  · rw [k1] at q; cases q; exact ⟨e1, e2, e3⟩
  · rw [k1] at q; cases q
  · rw [k1] at q; cases q

set_option maxHeartbeats 1000000 in
theorem awake_any (w : World) : Calls Try.prog 9 #[] w fun e w' => e = .returned (.bool true) ∧ Below w.heap.size w w' := by
  have G0 : Good (freshS 2) := fresh_good 2 (by omega) (by omega)
  have G1 := G0.get 7
  have G2 := G1.get 8
  have N : Hid (∀ W : World, Calls Try.prog 8 #[.int .i64 2] W fun e w' => e = .returned (.tuple #[.pointer (some ⟨W.heap.size + 2, 0, none⟩), .int .i64 0]) ∧ Own W w' (W.heap.size + 2) W.heap.size (W.heap.size + 1) 0 (freshS 2)) := fun W => new_ok 2 (by omega) (by omega) W
  have C1 : Hid (∀ W : World, IsTags W (w.heap.size + 2) w.heap.size (w.heap.size + 1) 0 (freshS 2) → Calls Try.prog 12 #[.pointer (some ⟨w.heap.size + 2, 0, none⟩), .int .i64 7] W fun e w' => e = .returned (.tuple #[.int .i64 1, .bool false]) ∧ IsTags w' (w.heap.size + 2) w.heap.size (w.heap.size + 1) 1 (getS (freshS 2) 7) ∧ Kp (w.heap.size + 2) w.heap.size (w.heap.size + 1) W w') := fun W h => get_any _ _ _ 0 (freshS 2) 7 (by decide) G0.ok (by decide) (by decide) W h
  have C2 : Hid (∀ W : World, IsTags W (w.heap.size + 2) w.heap.size (w.heap.size + 1) 1 (getS (freshS 2) 7) → Calls Try.prog 12 #[.pointer (some ⟨w.heap.size + 2, 0, none⟩), .int .i64 8] W fun e w' => e = .returned (.tuple #[.int .i64 2, .bool false]) ∧ IsTags w' (w.heap.size + 2) w.heap.size (w.heap.size + 1) 2 (getS (getS (freshS 2) 7) 8) ∧ Kp (w.heap.size + 2) w.heap.size (w.heap.size + 1) W w') := fun W h => get_any _ _ _ 1 _ 8 (by decide) G1.ok (by decide) (by decide) W h
  have C3 : Hid (∀ W : World, IsTags W (w.heap.size + 2) w.heap.size (w.heap.size + 1) 2 (getS (getS (freshS 2) 7) 8) → Calls Try.prog 12 #[.pointer (some ⟨w.heap.size + 2, 0, none⟩), .int .i64 9] W fun e w' => e = .returned (.tuple #[.int .i64 1, .bool true]) ∧ IsTags w' (w.heap.size + 2) w.heap.size (w.heap.size + 1) 3 (getS (getS (getS (freshS 2) 7) 8) 9) ∧ Kp (w.heap.size + 2) w.heap.size (w.heap.size + 1) W w') := fun W h => get_any _ _ _ 2 _ 9 (by decide) G2.ok (by decide) (by decide) W h
  have C4 : Hid (∀ W : World, IsTags W (w.heap.size + 2) w.heap.size (w.heap.size + 1) 3 (getS (getS (getS (freshS 2) 7) 8) 9) → Calls Try.prog 17 #[.pointer (some ⟨w.heap.size + 2, 0, none⟩)] W fun e w' => e = .returned (.int .i64 1) ∧ w' = W) := fun W h => gen_any _ _ _ 3 _ W h
  clear G0 G1 G2
  go_enter Try.func9, Try.ntmps9
  go_wp2_with fail
  refine (N.out _).mono ?_
  rintro e u0 ⟨rfl, h0⟩
  have M0 : Hid (Own w u0 (w.heap.size + 2) w.heap.size (w.heap.size + 1) 0 (freshS 2)) := h0
  clear h0
  go_wp2_with fail
  refine (C1.out _ M0.out.1).mono ?_
  rintro e u1 ⟨rfl, h1, h2⟩
  have M1 : Hid (Own w u1 (w.heap.size + 2) w.heap.size (w.heap.size + 1) 1 (getS (freshS 2) 7)) := M0.out.next h1 h2
  clear h1 h2 M0
  go_wp2_with fail
  refine (C2.out _ M1.out.1).mono ?_
  rintro e u2 ⟨rfl, h1, h2⟩
  have M2 : Hid (Own w u2 (w.heap.size + 2) w.heap.size (w.heap.size + 1) 2 (getS (getS (freshS 2) 7) 8)) := M1.out.next h1 h2
  clear h1 h2 M1
  go_wp2_with fail
  refine (C3.out _ M2.out.1).mono ?_
  rintro e u3 ⟨rfl, h1, h2⟩
  have M3 : Hid (Own w u3 (w.heap.size + 2) w.heap.size (w.heap.size + 1) 3 (getS (getS (getS (freshS 2) 7) 8) 9)) := M2.out.next h1 h2
  clear h1 h2 M2
  go_wp2_with fail
  refine (C4.out _ M3.out.1).mono ?_
  rintro e u4 ⟨rfl, rfl⟩
  go_wp2_with fail
  go_ret
  exact ⟨rfl, M3.out.2.1⟩

theorem args_stay {H : Type} {enc : TypeId × Value → H} {P : Program} {W W' : World} (hl : laidOutB P = true) (hb : Below W.heap.size W W') :
    ∀ {ts : List TypeId} {vs : List Value} {ds : List (DataW H)} {ps : List MemPlace}, (ts.all fun t => P.readableRec t && decide (t < P.types.size)) = true →
      DataW.TrodAll enc P W 0 (fun _ => true) true ts vs ds ps → (∀ x ∈ ps, x.block < W.heap.size) → DataW.TrodAll enc P W' 0 (fun b => decide (b < W.heap.size)) true ts vs ds ps
  | [], vs, ds, ps, _, h, _ => by
    obtain ⟨rfl, rfl, rfl⟩ := trodAll_nil h
    exact trodAll_mk0
  | t :: ts, vs, ds, ps, ha, h, hp => by
    obtain ⟨v, vs0, d, ds0, p, q, rfl, rfl, rfl, h0, r0⟩ := trodAll_cons h
    simp only [List.all_cons, Bool.and_eq_true, decide_eq_true_eq] at ha
    exact trodAll_cons_mk (Below.trod hl ha.1.1 ha.1.2 h0 hb (fun x hx => hp x (List.mem_append_left _ hx)))
      (args_stay hl hb (by simpa using ha.2) r0 (fun x hx => hp x (List.mem_append_right _ hx)))
/-- a call that comes in -/
structure Ac where
  drop : Bool
  sp : Int
def Ac.enc (a : Ac) : List Value := [.bool a.drop, .int .i64 a.sp]
def Ac.zero : Ac := ⟨false, 0⟩
theorem cellsA : Try.prog.cellsOf 32 = 2 := by kernel_rfl
theorem cellsI : Try.prog.cellsOf 3 = 1 := by kernel_rfl
theorem cellsB : Try.prog.cellsOf 4 = 1 := by kernel_rfl
theorem lt_of_cell {w : World} {a : Addr} {v : Value} (h : w.cell? a = some v) : a.block < w.heap.size := by
  unfold World.cell? at h
  by_cases c : a.block < w.heap.size
  · exact c
  · rw [Array.getElem?_eq_none (by omega)] at h
    simp at h
def IsActs (w : World) (p : Option Addr) (n : Nat) (A : Nat → Ac) : Prop := ∀ i, i < n → ∃ b o, p = some ⟨b, o, none⟩ ∧ b < w.heap.size ∧ w.cell? ⟨b, o + i * 2, none⟩ = some (.bool (A i).drop) ∧ w.cell? ⟨b, o + i * 2 + 1, none⟩ = some (.int .i64 (A i).sp) ∧ (Lit.int .i64 (A i).sp).wf = true
theorem open_acts {H : Type} {enc : TypeId × Value → H} {W : World} {base : Nat} {sp : Nat → Bool} {held : Bool} {v : Value} {x : DataW H} {ps : List MemPlace} {r : Reach} {b0 : Nat}
    (hv : Value.okWide Try.prog W r b0 22 v) (h : DataW.Trod enc Try.prog W base sp held 22 v x ps) :
    ∃ (p : Option Addr) (n c : Nat) (A : Nat → Ac), v = .slice p n c ∧ n ≤ maxLen ∧ IsActs W p n A := by
  obtain ⟨a', l', c', rfl⟩ := okWide_slice Try.underlying22 hv
  obtain ⟨fuel, hf⟩ := h
  rcases Go.Deep.open_slice Try.underlying22 hf with ⟨e, _⟩ | ⟨a, len, cap, m, k, D, Pl, e, hb, hl, hm, hmm, hx, hel⟩
  · have e' : Value.slice a' l' c' = .slice none 0 0 := (List.cons.inj (show [Value.slice a' l' c'] = [.slice none 0 0] from e)).1
    exact ⟨none, 0, 0, fun _ => Ac.zero, e', by omega, fun i hi => absurd hi (Nat.not_lt_zero _)⟩
  · have e' : Value.slice a' l' c' = .slice (some a) len cap := (List.cons.inj (show [Value.slice a' l' c'] = [.slice (some a) len cap] from e)).1
    have hlm : len ≤ m := by rw [hmm]; split <;> omega
    rw [e']
    have each : ∀ i, i < len → ∃ q : Ac, a.spot = none ∧ a.block < W.heap.size ∧ W.cell? ⟨a.block, a.off + i * 2, none⟩ = some (.bool q.drop) ∧ W.cell? ⟨a.block, a.off + i * 2 + 1, none⟩ = some (.int .i64 q.sp) ∧ (Lit.int .i64 q.sp).wf = true := fun i hi => by
      obtain ⟨cs', h1, h2⟩ := hel i (by omega)
      obtain ⟨c2', h3, _⟩ := hel 0 (by omega)
      rw [cellsA] at h1 h3
      obtain ⟨_, hlen, hcell⟩ := World.cells?_some h1
      obtain ⟨_, hlen3, hcell3⟩ := World.cells?_some h3
      have hspot : a.spot = none := by
        have := hcell3 0 (by omega)
        simpa [Addr.add] using World.cell?_spot (this.trans (List.getElem?_eq_getElem (by omega)))
      obtain ⟨xs, nn, _, _, hl', hlen', hfld⟩ := DataW.trod_struct Try.underlying32 h2
      have hg : ∀ i, i < 2 → ∃ y, xs[i]? = some y := fun i hi => ⟨_, List.getElem?_eq_getElem (by rw [hlen']; exact hi)⟩
      obtain ⟨y0, k0⟩ := hg 0 (by omega)
      obtain ⟨y1, k1⟩ := hg 1 (by omega)
      obtain ⟨q0, e0, _⟩ := DataW.trod_bool Try.underlying4 ((hfld 0 _ rfl).trans k0)
      obtain ⟨q1, e1, _, w1⟩ := DataW.trod_int Try.underlying3 ((hfld 1 _ rfl).trans k1)
      have g : ∀ j z (T : TypeId), Try.prog.cellsOf T = 1 → (cs'.drop j).take (Try.prog.cellsOf T) = [z] → cs'[j]? = some z := fun j z T hT hz => by
        rw [hT] at hz
        have : ((cs'.drop j).take 1)[0]? = some z := by rw [hz]; rfl
        rw [List.getElem?_take, if_pos (by omega), List.getElem?_drop] at this
        simpa using this
      have ad : ∀ j, (a.add (i * 2)).add j = ⟨a.block, a.off + i * 2 + j, none⟩ := fun j => by
        rw [Go.Deep.add_add]
        unfold Addr.add
        by_cases c : i * 2 + j = 0
        · rw [if_pos c]
          have : i * 2 = 0 ∧ j = 0 := by omega
          obtain ⟨bb, oo, ss⟩ := a
          simp only at hspot
          subst hspot
          simp [this.1, this.2]
        · rw [if_neg c]; simp; try omega
      have f0 : cs'[0]? = some (.bool q0) := g 0 _ _ cellsB e0
      have f1 : cs'[1]? = some (.int .i64 q1) := g 1 _ _ cellsI e1
      have c0 := hcell 0 (by omega)
      have c1 := hcell 1 (by omega)
      rw [ad, f0] at c0
      rw [ad, f1] at c1
      exact ⟨⟨q0, q1⟩, hspot, (by have := lt_of_cell c0; exact this), c0, c1, w1⟩
    haveI : Inhabited Ac := ⟨Ac.zero⟩
    obtain ⟨q, hq⟩ := Go.Deep.choose_lt each
    refine ⟨some a, len, cap, q, rfl, by omega, fun i hi => ?_⟩
    obtain ⟨s, l, c0, c1, w1⟩ := hq i hi
    obtain ⟨bb, oo, ss⟩ := a
    simp only at s
    subst s
    exact ⟨bb, oo, rfl, l, c0, c1, w1⟩
end Go.Proofs.Ytbdakoijhpobdaa
