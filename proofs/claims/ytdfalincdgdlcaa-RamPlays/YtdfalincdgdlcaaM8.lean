/- Calls that come in. -/
import Derived.Test.YtdfalincdgdlcaaN4
import Derived.Test.YtdfalincdgdlcaaM3
import Derived.Test.YtdfalincdgdlcaaM6
import Derived.Test.YtdfalincdgdlcaaM7
import Derived.Carry
import Derived.Deep.Slices
namespace Go.Proofs.Ytdfalincdgdlcaa
open Go.ChangeShapes Go.WideShapes Go.ChangeAt Go.RowKit Go.Maps
set_option linter.unusedSimpArgs false
set_option linter.unusedVariables false

theorem cell_of {P : Program} {t n : Nat} {cs : List Value} {c v : Value} (hc : P.cellsOf t = 1) (h : (cs.drop n).take (P.cellsOf t) = [v]) (hn : cs[n]? = some c) : c = v := by
  rw [hc] at h
  have e : ((cs.drop n).take 1)[0]? = some c := by rw [List.getElem?_take, if_pos (by omega), List.getElem?_drop]; simpa using hn
  rw [h] at e
  simpa using e.symm
/-- a call that comes in -/
structure Ac where
  k : Int
  ad : Int
  sz : Int
  x : Int
  tt : Int
  ff : Int
theorem cellsU : Try.prog.cellsOf 34 = 1 := by kernel_rfl
theorem cellsA : Try.prog.cellsOf 36 = 6 := by kernel_rfl
def Ac.enc (a : Ac) : List Value := [.int .i64 a.k, .int .u64 a.ad, .int .i64 a.sz, .int .u64 a.x, .int .i64 a.tt, .int .i64 a.ff]
def Ac.zero : Ac := ⟨0, 0, 0, 0, 0, 0⟩
def Fits (n : Int) : Prop := -9223372036854775808 ≤ n ∧ n ≤ 9223372036854775807
def FitsU (n : Int) : Prop := 0 ≤ n ∧ n < 18446744073709551616
def Ac.fits (a : Ac) : Prop := Fits a.k ∧ FitsU a.ad ∧ Fits a.sz ∧ FitsU a.x ∧ Fits a.tt ∧ Fits a.ff
theorem list6 {α : Type} {cs : List α} (h : cs.length = 6) : ∃ c0 c1 c2 c3 c4 c5, cs = [c0, c1, c2, c3, c4, c5] := by
  match cs, h with
  | [c0, c1, c2, c3, c4, c5], _ => exact ⟨c0, c1, c2, c3, c4, c5, rfl⟩
theorem fits_of {n : Int} (h : (Lit.int .i64 n).wf = true) : Fits n := by
  unfold Fits
  simp [Lit.wf, IntKind.min, IntKind.max, IntKind.signed, IntKind.bits] at h; omega
theorem fitsU_of {n : Int} (h : (Lit.int .u64 n).wf = true) : FitsU n := by
  unfold FitsU
  simp [Lit.wf, IntKind.min, IntKind.max, IntKind.signed, IntKind.bits] at h; omega
theorem act_cells {H : Type} {enc : TypeId × Value → H} {W : World} {base : Nat} {sp : Nat → Bool} {held : Bool} {fuel : Nat} {cs : List Value} {x : DataW H × List MemPlace}
    (hf : DataW.trod enc Try.prog W base sp held fuel 36 cs = some x) (hlen7 : cs.length = 6) : ∃ a : Ac, cs = a.enc ∧ a.fits := by
  obtain ⟨c0, c1, c2, c3, c4, c5, rfl⟩ := list6 hlen7
  obtain ⟨xs, n, _, _, hl, hlen, hf⟩ := DataW.trod_struct Try.underlying36 hf
  have hg : ∀ i, i < 6 → ∃ y, xs[i]? = some y := fun i hi => ⟨_, List.getElem?_eq_getElem (by rw [hlen]; exact hi)⟩
  obtain ⟨y0, k0⟩ := hg 0 (by omega)
  obtain ⟨a0, e0, _, w0⟩ := DataW.trod_int Try.underlying3 ((hf 0 _ rfl).trans k0)
  obtain ⟨y1, k1⟩ := hg 1 (by omega)
  obtain ⟨a1, e1, _, w1⟩ := DataW.trod_int Try.underlying34 ((hf 1 _ rfl).trans k1)
  obtain ⟨y2, k2⟩ := hg 2 (by omega)
  obtain ⟨a2, e2, _, w2⟩ := DataW.trod_int Try.underlying3 ((hf 2 _ rfl).trans k2)
  obtain ⟨y3, k3⟩ := hg 3 (by omega)
  obtain ⟨a3, e3, _, w3⟩ := DataW.trod_int Try.underlying34 ((hf 3 _ rfl).trans k3)
  obtain ⟨y4, k4⟩ := hg 4 (by omega)
  obtain ⟨a4, e4, _, w4⟩ := DataW.trod_int Try.underlying3 ((hf 4 _ rfl).trans k4)
  obtain ⟨y5, k5⟩ := hg 5 (by omega)
  obtain ⟨a5, e5, _, w5⟩ := DataW.trod_int Try.underlying3 ((hf 5 _ rfl).trans k5)
  obtain rfl := cell_of cellsI e0 (c := c0) rfl
  obtain rfl := cell_of cellsU e1 (c := c1) rfl
  obtain rfl := cell_of cellsI e2 (c := c2) rfl
  obtain rfl := cell_of cellsU e3 (c := c3) rfl
  obtain rfl := cell_of cellsI e4 (c := c4) rfl
  obtain rfl := cell_of cellsI e5 (c := c5) rfl
  exact ⟨⟨a0, a1, a2, a3, a4, a5⟩, rfl, fits_of w0, fitsU_of w1, fits_of w2, fitsU_of w3, fits_of w4, fits_of w5⟩
def IsActs (w : World) (p : Option Addr) (n : Nat) (A : Nat → Ac) : Prop := ∀ i, i < n → ∃ b o, p = some ⟨b, o, none⟩ ∧ b < w.heap.size ∧ (∀ j x, (A i).enc[j]? = some x → w.cell? ⟨b, o + i * 6 + j, none⟩ = some x) ∧ (A i).fits
theorem open_acts {H : Type} {enc : TypeId × Value → H} {W : World} {base : Nat} {sp : Nat → Bool} {held : Bool} {v : Value} {x : DataW H} {ps : List MemPlace} {r : Reach} {b0 : Nat}
    (hv : Value.okWide Try.prog W r b0 23 v) (h : DataW.Trod enc Try.prog W base sp held 23 v x ps) :
    ∃ (p : Option Addr) (n c : Nat) (A : Nat → Ac), v = .slice p n c ∧ n ≤ maxLen ∧ IsActs W p n A := by
  obtain ⟨a', l', c', rfl⟩ := okWide_slice Try.underlying23 hv
  obtain ⟨fuel, hf⟩ := h
  rcases Go.Deep.open_slice Try.underlying23 hf with ⟨e, _⟩ | ⟨a, len, cap, m, k, D, Pl, e, hb, hl, hm, hmm, hx, hel⟩
  · have e' : Value.slice a' l' c' = .slice none 0 0 := (List.cons.inj (show [Value.slice a' l' c'] = [.slice none 0 0] from e)).1
    exact ⟨none, 0, 0, fun _ => Ac.zero, e', by omega, fun i hi => absurd hi (Nat.not_lt_zero _)⟩
  · have e' : Value.slice a' l' c' = .slice (some a) len cap := (List.cons.inj (show [Value.slice a' l' c'] = [.slice (some a) len cap] from e)).1
    have hlm : len ≤ m := by rw [hmm]; split <;> omega
    rw [e']
    have each : ∀ i, i < len → ∃ q : Ac, a.spot = none ∧ a.block < W.heap.size ∧ (∀ j x, q.enc[j]? = some x → W.cell? ⟨a.block, a.off + i * 6 + j, none⟩ = some x) ∧ q.fits := fun i hi => by
      obtain ⟨cs', h1, h2⟩ := hel i (by omega)
      obtain ⟨c2', h3, _⟩ := hel 0 (by omega)
      rw [cellsA] at h1 h3
      obtain ⟨_, hlen, hcell⟩ := World.cells?_some h1
      obtain ⟨_, hlen3, hcell3⟩ := World.cells?_some h3
      have hspot : a.spot = none := by
        have := hcell3 0 (by omega)
        simpa [Addr.add] using World.cell?_spot (this.trans (List.getElem?_eq_getElem (by omega)))
      obtain ⟨q, hq, b1, b2⟩ := act_cells h2 (by omega)
      have ad : ∀ j, (a.add (i * 6)).add j = ⟨a.block, a.off + i * 6 + j, none⟩ := fun j => by
        rw [Go.Deep.add_add]
        unfold Addr.add
        by_cases c : i * 6 + j = 0
        · rw [if_pos c]
          have : i * 6 = 0 ∧ j = 0 := by omega
          obtain ⟨bb, oo, ss⟩ := a
          simp only at hspot
          subst hspot
          simp [this.1, this.2]
        · rw [if_neg c]; simp; try omega
      have all : ∀ j x, q.enc[j]? = some x → W.cell? ⟨a.block, a.off + i * 6 + j, none⟩ = some x := fun j z hz => by
        have hj : j < 6 := (List.getElem?_eq_some_iff.1 hz).1
        have hc := hcell j hj
        rw [ad, hq] at hc
        rw [hc]; exact hz
      exact ⟨q, hspot, (by have := lt_of_cell (all 0 _ rfl); exact this), all, b1, b2⟩
    haveI : Inhabited Ac := ⟨Ac.zero⟩
    obtain ⟨q, hq⟩ := Go.Deep.choose_lt each
    refine ⟨some a, len, cap, q, rfl, by omega, fun i hi => ?_⟩
    obtain ⟨s, l, c0, b1, b2⟩ := hq i hi
    obtain ⟨bb, oo, ss⟩ := a
    simp only at s
    subst s
    exact ⟨bb, oo, rfl, l, c0, b1, b2⟩
theorem has_ge {F k : Int} {hs : List (Int × Int)} (h : hasH F hs k = true) : 0 ≤ k := by
  unfold hasH hasF at h
  simp at h
  omega
end Go.Proofs.Ytdfalincdgdlcaa
