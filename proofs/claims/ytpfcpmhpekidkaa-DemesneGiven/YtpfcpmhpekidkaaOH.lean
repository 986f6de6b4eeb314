/- Boot maps: what comes in. -/
import Derived.Test.YtpfcpmhpekidkaaOG
namespace Go.Proofs.Ytpfcpmhpekidkaa.Bm
open Go.ChangeShapes Go.WideShapes Go.ChangeAt Go.RowKit Go.Maps
set_option linter.unusedSimpArgs false
set_option linter.unusedVariables false
set_option maxRecDepth 8000

theorem args_stay {H : Type} {enc : TypeId × Value → H} {P : Program} {W W' : World} (hl : laidOutB P = true) (hb : Below W.heap.size W W') :
    ∀ {ts : List TypeId} {vs : List Value} {ds : List (DataW H)} {ps : List MemPlace}, (ts.all fun t => P.readableRec t && decide (t < P.types.size)) = true →
      DataW.TrodAll enc P W 0 (fun _ => true) true ts vs ds ps → (∀ x ∈ ps, x.block < W.heap.size) → DataW.TrodAll enc P W' 0 (fun b => decide (b < W.heap.size)) true ts vs ds ps
  | [], vs, ds, ps, _, h, _ => by
    obtain ⟨rfl, rfl, rfl⟩ := trodAll_nil h
    exact trodAll_mk0
  | t :: ts, vs, ds, ps, ha, h, hp => by
    obtain ⟨v, vs0, d, ds0, p, q, rfl, rfl, rfl, h0, r0⟩ := trodAll_cons h
    simp only [List.all_cons, Bool.and_eq_true, decide_eq_true_eq] at ha
    exact trodAll_cons_mk (Below.trod hl ha.1.1 ha.1.2 h0 hb (fun x hx => hp x (List.mem_append_left _ hx)))
      (args_stay hl hb (by simpa using ha.2) r0 (fun x hx => hp x (List.mem_append_right _ hx)))

theorem cellsI : Try.prog.cellsOf 3 = 1 := by kernel_rfl
theorem cellsR : Try.prog.cellsOf 30 = 2 := by kernel_rfl
theorem cellsB : Try.prog.cellsOf 5 = 1 := by kernel_rfl
theorem cell_of {P : Program} {t n : Nat} {cs : List Value} {c v : Value} (hc : P.cellsOf t = 1) (h : (cs.drop n).take (P.cellsOf t) = [v]) (hn : cs[n]? = some c) : c = v := by
  rw [hc] at h
  have e : ((cs.drop n).take 1)[0]? = some c := by rw [List.getElem?_take, if_pos (by omega), List.getElem?_drop]; simpa using hn
  rw [h] at e
  simpa using e.symm
theorem lt_of_cell {w : World} {a : Addr} {v : Value} (h : w.cell? a = some v) : a.block < w.heap.size := by
  unfold World.cell? at h
  by_cases c : a.block < w.heap.size
  · exact c
  · rw [Array.getElem?_eq_none (by omega)] at h
    simp at h
/-- ranges that come in -/
def IsRgs (w : World) (p : Option Addr) (n : Nat) (F : Nat → Int × Int) : Prop := ∀ i, i < n → ∃ b o, p = some ⟨b, o, none⟩ ∧ b < w.heap.size ∧ w.cell? ⟨b, o + i * 2, none⟩ = some (.int .i64 (F i).1) ∧ w.cell? ⟨b, o + i * 2 + 1, none⟩ = some (.int .i64 (F i).2) ∧ (Lit.int .i64 (F i).1).wf = true ∧ (Lit.int .i64 (F i).2).wf = true
theorem open_rgs {H : Type} {enc : TypeId × Value → H} {W : World} {base : Nat} {sp : Nat → Bool} {held : Bool} {v : Value} {x : DataW H} {ps : List MemPlace} {r : Reach} {b0 : Nat}
    (hv : Value.okWide Try.prog W r b0 25 v) (h : DataW.Trod enc Try.prog W base sp held 25 v x ps) :
    ∃ (p : Option Addr) (n c : Nat) (F : Nat → Int × Int), v = .slice p n c ∧ n ≤ maxLen ∧ n ≤ c ∧ IsRgs W p n F := by
  obtain ⟨a', l', c', rfl⟩ := okWide_slice Try.underlying25 hv
  obtain ⟨fuel, hf⟩ := h
  rcases Go.Deep.open_slice Try.underlying25 hf with ⟨e, _⟩ | ⟨a, len, cap, m, k, D, Pl, e, hb, hl, hm, hmm, hx, hel⟩
  · have e' : Value.slice a' l' c' = .slice none 0 0 := (List.cons.inj (show [Value.slice a' l' c'] = [.slice none 0 0] from e)).1
    exact ⟨none, 0, 0, fun _ => (0, 0), e', by omega, by omega, fun i hi => absurd hi (Nat.not_lt_zero _)⟩
  · have e' : Value.slice a' l' c' = .slice (some a) len cap := (List.cons.inj (show [Value.slice a' l' c'] = [.slice (some a) len cap] from e)).1
    have hlm : len ≤ m := by rw [hmm]; split <;> omega
    rw [e']
    have each : ∀ i, i < len → ∃ q : Int × Int, a.spot = none ∧ a.block < W.heap.size ∧ W.cell? ⟨a.block, a.off + i * 2, none⟩ = some (.int .i64 q.1) ∧ W.cell? ⟨a.block, a.off + i * 2 + 1, none⟩ = some (.int .i64 q.2) ∧ (Lit.int .i64 q.1).wf = true ∧ (Lit.int .i64 q.2).wf = true := fun i hi => by
      obtain ⟨cs', h1, h2⟩ := hel i (by omega)
      obtain ⟨c2', h3, _⟩ := hel 0 (by omega)
      rw [cellsR] at h1 h3
      obtain ⟨_, hlen, hcell⟩ := World.cells?_some h1
      obtain ⟨_, hlen3, hcell3⟩ := World.cells?_some h3
      have hspot : a.spot = none := by
        have := hcell3 0 (by omega)
        simpa [Addr.add] using World.cell?_spot (this.trans (List.getElem?_eq_getElem (by omega)))
      obtain ⟨xs, kk, _, _, _, hxl, hfld⟩ := DataW.trod_struct Try.underlying30 h2
      have hg : ∀ j, j < 2 → ∃ y, xs[j]? = some y := fun j hj => ⟨_, List.getElem?_eq_getElem (by rw [hxl]; exact hj)⟩
      obtain ⟨y0, k0⟩ := hg 0 (by omega)
      obtain ⟨y1, k1⟩ := hg 1 (by omega)
      obtain ⟨a0, e0, _, u0⟩ := DataW.trod_int Try.underlying3 ((hfld 0 _ rfl).trans k0)
      obtain ⟨a1, e1, _, u1⟩ := DataW.trod_int Try.underlying3 ((hfld 1 _ rfl).trans k1)
      have g : ∀ j z, (cs'.drop j).take (Try.prog.cellsOf 3) = [z] → cs'[j]? = some z := fun j z hz => by
        rw [cellsI] at hz
        have : ((cs'.drop j).take 1)[0]? = some z := by rw [hz]; rfl
        rw [List.getElem?_take, if_pos (by omega), List.getElem?_drop] at this
        simpa using this
      have ad : ∀ j, (a.add (i * 2)).add j = ⟨a.block, a.off + i * 2 + j, none⟩ := fun j => by
        rw [Go.Deep.add_add]
        unfold Addr.add
        by_cases c : i * 2 + j = 0
        · rw [if_pos c]
          have : i * 2 = 0 ∧ j = 0 := by omega
          obtain ⟨bb, oo, ss⟩ := a
          simp only at hspot
          subst hspot
          simp [this.1, this.2]
        · rw [if_neg c]; simp; try omega
      have c0 := hcell 0 (by omega)
      have c1 := hcell 1 (by omega)
      rw [ad, g 0 _ e0] at c0
      rw [ad, g 1 _ e1] at c1
      exact ⟨(a0, a1), hspot, (by have := lt_of_cell c0; exact this), c0, c1, u0, u1⟩
    obtain ⟨q, hq⟩ := Go.Deep.choose_lt each
    refine ⟨some a, len, cap, q, rfl, by omega, hl, fun i hi => ?_⟩
    obtain ⟨s, l, c0, c1, u0, u1⟩ := hq i hi
    obtain ⟨bb, oo, ss⟩ := a
    simp only at s
    subst s
    exact ⟨bb, oo, rfl, l, c0, c1, u0, u1⟩

def IsByts (w : World) (p : Option Addr) (n : Nat) (A : Nat → Int) : Prop := ∀ i, i < n → ∃ b o, p = some ⟨b, o, none⟩ ∧ b < w.heap.size ∧ w.cell? ⟨b, o + i, none⟩ = some (.int .u8 (A i)) ∧ (Lit.int .u8 (A i)).wf = true
theorem open_byts {H : Type} {enc : TypeId × Value → H} {W : World} {base : Nat} {sp : Nat → Bool} {held : Bool} {v : Value} {x : DataW H} {ps : List MemPlace} {r : Reach} {b0 : Nat}
    (hv : Value.okWide Try.prog W r b0 22 v) (h : DataW.Trod enc Try.prog W base sp held 22 v x ps) :
    ∃ (p : Option Addr) (n c : Nat) (A : Nat → Int), v = .slice p n c ∧ n ≤ maxLen ∧ n ≤ c ∧ IsByts W p n A := by
  obtain ⟨a', l', c', rfl⟩ := okWide_slice Try.underlying22 hv
  obtain ⟨fuel, hf⟩ := h
  rcases Go.Deep.open_slice Try.underlying22 hf with ⟨e, _⟩ | ⟨a, len, cap, m, k, D, Pl, e, hb, hl, hm, hmm, hx, hel⟩
  · have e' : Value.slice a' l' c' = .slice none 0 0 := (List.cons.inj (show [Value.slice a' l' c'] = [.slice none 0 0] from e)).1
    exact ⟨none, 0, 0, fun _ => 0, e', by omega, by omega, fun i hi => absurd hi (Nat.not_lt_zero _)⟩
  · have e' : Value.slice a' l' c' = .slice (some a) len cap := (List.cons.inj (show [Value.slice a' l' c'] = [.slice (some a) len cap] from e)).1
    have hlm : len ≤ m := by rw [hmm]; split <;> omega
    rw [e']
    have each : ∀ i, i < len → ∃ q : Int, a.spot = none ∧ a.block < W.heap.size ∧ W.cell? ⟨a.block, a.off + i, none⟩ = some (.int .u8 q) ∧ (Lit.int .u8 q).wf = true := fun i hi => by
      obtain ⟨cs', h1, h2⟩ := hel i (by omega)
      obtain ⟨c2', h3, _⟩ := hel 0 (by omega)
      rw [cellsB] at h1 h3
      obtain ⟨_, hlen, hcell⟩ := World.cells?_some h1
      obtain ⟨_, hlen3, hcell3⟩ := World.cells?_some h3
      have hspot : a.spot = none := by
        have := hcell3 0 (by omega)
        simpa [Addr.add] using World.cell?_spot (this.trans (List.getElem?_eq_getElem (by omega)))
      obtain ⟨q1, e1, _, w1⟩ := DataW.trod_int Try.underlying5 h2
      have ad : (a.add (i * 1)).add 0 = ⟨a.block, a.off + i, none⟩ := by
        rw [Go.Deep.add_add]
        unfold Addr.add
        by_cases c : i * 1 + 0 = 0
        · rw [if_pos c]
          have : i = 0 := by omega
          obtain ⟨bb, oo, ss⟩ := a
          simp only at hspot
          subst hspot
          simp [this]
        · rw [if_neg c]; simp; try omega
      have c1 := hcell 0 (by omega)
      rw [ad, e1] at c1
      have c2 : W.cell? ⟨a.block, a.off + i, none⟩ = some (.int .u8 q1) := c1
      exact ⟨q1, hspot, (by have := lt_of_cell c2; exact this), c2, w1⟩
    obtain ⟨q, hq⟩ := Go.Deep.choose_lt each
    refine ⟨some a, len, cap, q, rfl, by omega, hl, fun i hi => ?_⟩
    obtain ⟨s, l, c1, w1⟩ := hq i hi
    obtain ⟨bb, oo, ss⟩ := a
    simp only at s
    subst s
    exact ⟨bb, oo, rfl, l, c1, w1⟩
theorem open_range {H : Type} {enc : TypeId × Value → H} {W : World} {r : Reach} {b0 base : Nat} {sp : Nat → Bool} {held : Bool} {v : Value} {x : DataW H} {ps : List MemPlace}
    (hv : Value.okWide Try.prog W r b0 30 v) (h : DataW.Trod enc Try.prog W base sp held 30 v x ps) :
    ∃ (a b : Int), v = .agg #[.int .i64 a, .int .i64 b] ∧ (Lit.int .i64 a).wf = true ∧ (Lit.int .i64 b).wf = true := by
  obtain ⟨cs, rfl, hsz⟩ := okWide_struct Try.underlying30 hv
  obtain ⟨c0, c1, rfl⟩ := Go.Joins.array2 (hsz.trans cellsR)
  obtain ⟨fuel, hf⟩ := h
  obtain ⟨xs, n, _, _, hl, hlen, hf⟩ := DataW.trod_struct Try.underlying30 hf
  have hg : ∀ i, i < 2 → ∃ y, xs[i]? = some y := fun i hi => ⟨_, List.getElem?_eq_getElem (by rw [hlen]; exact hi)⟩
  obtain ⟨y0, k0⟩ := hg 0 (by omega)
  obtain ⟨y1, k1⟩ := hg 1 (by omega)
  obtain ⟨a, e0, _, wa⟩ := DataW.trod_int Try.underlying3 ((hf 0 _ rfl).trans k0)
  obtain ⟨b, e1, _, wb⟩ := DataW.trod_int Try.underlying3 ((hf 1 _ rfl).trans k1)
  obtain rfl := cell_of cellsI e0 (c := c0) rfl
  obtain rfl := cell_of cellsI e1 (c := c1) rfl
  exact ⟨_, _, rfl, wa, wb⟩

theorem rgs_src {w : World} {p : Option Addr} {n : Nat} {F : Nat → Int × Int} (h : IsRgs w p n F) : Src 2 eR w p ((List.range n).map F) := fun i hi => by
  have hi' : i < n := by simpa using hi
  obtain ⟨b, o, e, l, c0, c1, _⟩ := h i hi'
  refine ⟨b, o, e, l, fun j hj => ?_⟩
  have e2 : ((List.range n).map F)[i] = F i := by simp
  rw [e2]
  have hj' : j = 0 ∨ j = 1 := by omega
  rcases hj' with rfl | rfl
  · exact c0
  · exact c1
theorem byts_src {w : World} {p : Option Addr} {n : Nat} {B : Nat → Int} (h : IsByts w p n B) : Src 1 eB w p ((List.range n).map B) ∧ Byt ((List.range n).map B) := by
  refine ⟨fun i hi => ?_, fun x hx => ?_⟩
  · have hi' : i < n := by simpa using hi
    obtain ⟨b, o, e, l, c0, _⟩ := h i hi'
    refine ⟨b, o, e, l, fun j hj => ?_⟩
    obtain rfl : j = 0 := by omega
    have e2 : ((List.range n).map B)[i] = B i := by simp
    rw [e2, Nat.mul_one, Nat.add_zero]
    exact c0
  · obtain ⟨i, hi, rfl⟩ := List.mem_map.1 hx
    obtain ⟨_, _, _, _, _, hw⟩ := h i (List.mem_range.1 hi)
    simp [Lit.wf, IntKind.min, IntKind.max, IntKind.signed, IntKind.bits] at hw
    omega
end Go.Proofs.Ytpfcpmhpekidkaa.Bm
