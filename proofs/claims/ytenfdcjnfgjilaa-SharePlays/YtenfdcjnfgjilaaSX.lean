/- Grants: calls that come in; that arguments stay as they were. -/
import Derived.Test.YtenfdcjnfgjilaaS0
import Derived.Carry
import Derived.Deep.Slices
namespace Go.Proofs.Ytenfdcjnfgjilaa
open Go.ChangeShapes Go.WideShapes Go.ChangeAt Go.RowKit Go.Maps
set_option linter.unusedSimpArgs false
set_option linter.unusedVariables false
set_option maxRecDepth 8000
set_option maxRecDepth 8000
set_option maxRecDepth 8000

theorem args_stay {H : Type} {enc : TypeId × Value → H} {P : Program} {W W' : World} (hl : laidOutB P = true) (hb : Below W.heap.size W W') :
    ∀ {ts : List TypeId} {vs : List Value} {ds : List (DataW H)} {ps : List MemPlace}, (ts.all fun t => P.readableRec t && decide (t < P.types.size)) = true →
      DataW.TrodAll enc P W 0 (fun _ => true) true ts vs ds ps → (∀ x ∈ ps, x.block < W.heap.size) → DataW.TrodAll enc P W' 0 (fun b => decide (b < W.heap.size)) true ts vs ds ps
  | [], vs, ds, ps, _, h, _ => by
    obtain ⟨rfl, rfl, rfl⟩ := trodAll_nil h
    exact trodAll_mk0
  | t :: ts, vs, ds, ps, ha, h, hp => by
    obtain ⟨v, vs0, d, ds0, p, q, rfl, rfl, rfl, h0, r0⟩ := trodAll_cons h
    simp only [List.all_cons, Bool.and_eq_true, decide_eq_true_eq] at ha
    exact trodAll_cons_mk (Below.trod hl ha.1.1 ha.1.2 h0 hb (fun x hx => hp x (List.mem_append_left _ hx)))
      (args_stay hl hb (by simpa using ha.2) r0 (fun x hx => hp x (List.mem_append_right _ hx)))
theorem cell_of {P : Program} {t n : Nat} {cs : List Value} {c v : Value} (hc : P.cellsOf t = 1) (h : (cs.drop n).take (P.cellsOf t) = [v]) (hn : cs[n]? = some c) : c = v := by
  rw [hc] at h
  have e : ((cs.drop n).take 1)[0]? = some c := by rw [List.getElem?_take, if_pos (by omega), List.getElem?_drop]; simpa using hn
  rw [h] at e
  simpa using e.symm
/-- a call that comes in -/
structure Ac where
  k : Int
  a : Int
  b : Int
  p : Int
  x : Bool
theorem cellsB : Try.prog.cellsOf 4 = 1 := by kernel_rfl
theorem cellsI : Try.prog.cellsOf 3 = 1 := by kernel_rfl
theorem cellsA : Try.prog.cellsOf 31 = 5 := by kernel_rfl
theorem lt_of_cell {w : World} {a : Addr} {v : Value} (h : w.cell? a = some v) : a.block < w.heap.size := by
  unfold World.cell? at h
  by_cases c : a.block < w.heap.size
  · exact c
  · rw [Array.getElem?_eq_none (by omega)] at h
    simp at h
def Ac.enc (a : Ac) : List Value := [.int .i64 a.k, .int .i64 a.a, .int .i64 a.b, .int .i64 a.p, .bool a.x]
def Ac.zero : Ac := ⟨0, 0, 0, 0, false⟩
def Fits (n : Int) : Prop := -9223372036854775808 ≤ n ∧ n ≤ 9223372036854775807
def Ac.fits (a : Ac) : Prop := Fits a.k ∧ Fits a.a ∧ Fits a.b ∧ Fits a.p
theorem list5 {α : Type} {cs : List α} (h : cs.length = 5) : ∃ c0 c1 c2 c3 c4, cs = [c0, c1, c2, c3, c4] := by
  match cs, h with
  | [c0, c1, c2, c3, c4], _ => exact ⟨c0, c1, c2, c3, c4, rfl⟩
theorem fits_of {n : Int} (h : (Lit.int .i64 n).wf = true) : Fits n := by
  unfold Fits
  simp [Lit.wf, IntKind.min, IntKind.max, IntKind.signed, IntKind.bits] at h; omega
theorem act_cells {H : Type} {enc : TypeId × Value → H} {W : World} {base : Nat} {sp : Nat → Bool} {held : Bool} {fuel : Nat} {cs : List Value} {x : DataW H × List MemPlace}
    (hf : DataW.trod enc Try.prog W base sp held fuel 31 cs = some x) (hlen7 : cs.length = 5) : ∃ a : Ac, cs = a.enc ∧ a.fits := by
  obtain ⟨c0, c1, c2, c3, c4, rfl⟩ := list5 hlen7
  obtain ⟨xs, n, _, _, hl, hlen, hf⟩ := DataW.trod_struct Try.underlying31 hf
  have hg : ∀ i, i < 5 → ∃ y, xs[i]? = some y := fun i hi => ⟨_, List.getElem?_eq_getElem (by rw [hlen]; exact hi)⟩
  obtain ⟨y0, k0⟩ := hg 0 (by omega)
  obtain ⟨y1, k1⟩ := hg 1 (by omega)
  obtain ⟨y2, k2⟩ := hg 2 (by omega)
  obtain ⟨y3, k3⟩ := hg 3 (by omega)
  obtain ⟨y4, k4⟩ := hg 4 (by omega)
  obtain ⟨a0, e0, _, w0⟩ := DataW.trod_int Try.underlying3 ((hf 0 _ rfl).trans k0)
  obtain ⟨a1, e1, _, w1⟩ := DataW.trod_int Try.underlying3 ((hf 1 _ rfl).trans k1)
  obtain ⟨a2, e2, _, w2⟩ := DataW.trod_int Try.underlying3 ((hf 2 _ rfl).trans k2)
  obtain ⟨a3, e3, _, w3⟩ := DataW.trod_int Try.underlying3 ((hf 3 _ rfl).trans k3)
  obtain ⟨a4, e4, _⟩ := DataW.trod_bool Try.underlying4 ((hf 4 _ rfl).trans k4)
  obtain rfl := cell_of cellsI e0 (c := c0) rfl
  obtain rfl := cell_of cellsI e1 (c := c1) rfl
  obtain rfl := cell_of cellsI e2 (c := c2) rfl
  obtain rfl := cell_of cellsI e3 (c := c3) rfl
  obtain rfl := cell_of cellsB e4 (c := c4) rfl
  exact ⟨⟨a0, a1, a2, a3, a4⟩, rfl, fits_of w0, fits_of w1, fits_of w2, fits_of w3⟩
def IsActs (w : World) (p : Option Addr) (n : Nat) (A : Nat → Ac) : Prop := ∀ i, i < n → ∃ b o, p = some ⟨b, o, none⟩ ∧ b < w.heap.size ∧ (∀ j x, (A i).enc[j]? = some x → w.cell? ⟨b, o + i * 5 + j, none⟩ = some x) ∧ (A i).fits
theorem open_acts {H : Type} {enc : TypeId × Value → H} {W : World} {base : Nat} {sp : Nat → Bool} {held : Bool} {v : Value} {x : DataW H} {ps : List MemPlace} {r : Reach} {b0 : Nat}
    (hv : Value.okWide Try.prog W r b0 22 v) (h : DataW.Trod enc Try.prog W base sp held 22 v x ps) :
    ∃ (p : Option Addr) (n c : Nat) (A : Nat → Ac), v = .slice p n c ∧ n ≤ maxLen ∧ IsActs W p n A := by
  obtain ⟨a', l', c', rfl⟩ := okWide_slice Try.underlying22 hv
  obtain ⟨fuel, hf⟩ := h
  rcases Go.Deep.open_slice Try.underlying22 hf with ⟨e, _⟩ | ⟨a, len, cap, m, k, D, Pl, e, hb, hl, hm, hmm, hx, hel⟩
  · have e' : Value.slice a' l' c' = .slice none 0 0 := (List.cons.inj (show [Value.slice a' l' c'] = [.slice none 0 0] from e)).1
    exact ⟨none, 0, 0, fun _ => Ac.zero, e', by omega, fun i hi => absurd hi (Nat.not_lt_zero _)⟩
  · have e' : Value.slice a' l' c' = .slice (some a) len cap := (List.cons.inj (show [Value.slice a' l' c'] = [.slice (some a) len cap] from e)).1
    have hlm : len ≤ m := by rw [hmm]; split <;> omega
    rw [e']
    have each : ∀ i, i < len → ∃ q : Ac, a.spot = none ∧ a.block < W.heap.size ∧ (∀ j x, q.enc[j]? = some x → W.cell? ⟨a.block, a.off + i * 5 + j, none⟩ = some x) ∧ q.fits := fun i hi => by
      obtain ⟨cs', h1, h2⟩ := hel i (by omega)
      obtain ⟨c2', h3, _⟩ := hel 0 (by omega)
      rw [cellsA] at h1 h3
      obtain ⟨_, hlen, hcell⟩ := World.cells?_some h1
      obtain ⟨_, hlen3, hcell3⟩ := World.cells?_some h3
      have hspot : a.spot = none := by
        have := hcell3 0 (by omega)
        simpa [Addr.add] using World.cell?_spot (this.trans (List.getElem?_eq_getElem (by omega)))
      obtain ⟨q, hq, b1, b2⟩ := act_cells h2 (by omega)
      have ad : ∀ j, (a.add (i * 5)).add j = ⟨a.block, a.off + i * 5 + j, none⟩ := fun j => by
        rw [Go.Deep.add_add]
        unfold Addr.add
        by_cases c : i * 5 + j = 0
        · rw [if_pos c]
          have : i * 5 = 0 ∧ j = 0 := by omega
          obtain ⟨bb, oo, ss⟩ := a
          simp only at hspot
          subst hspot
          simp [this.1, this.2]
        · rw [if_neg c]; simp; try omega
      have all : ∀ j x, q.enc[j]? = some x → W.cell? ⟨a.block, a.off + i * 5 + j, none⟩ = some x := fun j z hz => by
        have hj : j < 5 := (List.getElem?_eq_some_iff.1 hz).1
        have hc := hcell j hj
        rw [ad, hq] at hc
        rw [hc]; exact hz
      exact ⟨q, hspot, (by have := lt_of_cell (all 0 _ rfl); exact this), all, b1, b2⟩
    haveI : Inhabited Ac := ⟨Ac.zero⟩
    obtain ⟨q, hq⟩ := Go.Deep.choose_lt each
    refine ⟨some a, len, cap, q, rfl, by omega, fun i hi => ?_⟩
    obtain ⟨s, l, c0, b1, b2⟩ := hq i hi
    obtain ⟨bb, oo, ss⟩ := a
    simp only at s
    subst s
    exact ⟨bb, oo, rfl, l, c0, b1, b2⟩
end Go.Proofs.Ytenfdcjnfgjilaa
