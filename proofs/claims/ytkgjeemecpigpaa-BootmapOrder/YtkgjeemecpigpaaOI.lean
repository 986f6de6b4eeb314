/- Boot maps: areas that come in. -/
import Derived.Test.YtkgjeemecpigpaaOH
namespace Go.Proofs.Ytkgjeemecpigpaa.Bm
open Go.ChangeShapes Go.WideShapes Go.ChangeAt Go.RowKit Go.Maps
set_option linter.unusedSimpArgs false
set_option linter.unusedVariables false
set_option maxRecDepth 8000

theorem cellsU : Try.prog.cellsOf 32 = 1 := by kernel_rfl
theorem cells32 : Try.prog.cellsOf 33 = 1 := by kernel_rfl
theorem cellsAr : Try.prog.cellsOf 36 = 3 := by kernel_rfl
theorem opens_cells : Try.prog.cellsOf 36 = 3 := by kernel_rfl
def Ar.val (x : Ar) : Value := .agg #[.int .u64 x.f, .int .u64 x.l, .int .u32 x.k]
theorem area_of {H : Type} {enc : TypeId × Value → H} {W : World} {base : Nat} {sp : Nat → Bool} {held : Bool} {x : DataW H} {ps : List MemPlace} {fuel : Nat} {cs : List Value} (hf : DataW.trod enc Try.prog W base sp held fuel 36 cs = some (x, ps)) (hl : cs.length = 3) :
    ∃ (a0 : Int) (a1 : Int) (a2 : Int), cs = [.int .u64 a0, .int .u64 a1, .int .u32 a2] ∧ (Lit.int .u64 a0).wf = true ∧ (Lit.int .u64 a1).wf = true ∧ (Lit.int .u32 a2).wf = true ∧ True := by
  obtain ⟨c0, c1, c2, hcs⟩ : ∃ c0 c1 c2, cs = [c0, c1, c2] := by
    revert hl
    match cs with
    | [c0, c1, c2] => intro _; exact ⟨c0, c1, c2, rfl⟩
    | [] => intro q; cases q
    | [_] => intro q; cases q
    | [_, _] => intro q; cases q
    | _ :: _ :: _ :: _ :: _ => intro q; simp at q
  subst hcs
  obtain ⟨zs, m, _, _, jl, jlen, jf⟩ := DataW.trod_struct Try.underlying36 hf
  have jg : ∀ i, i < 3 → ∃ y, zs[i]? = some y := fun i hi => ⟨_, List.getElem?_eq_getElem (by rw [jlen]; exact hi)⟩
  obtain ⟨⟨z0a, z0b⟩, m0⟩ := jg 0 (by omega)
  obtain ⟨b0, e0, _, w0⟩ := DataW.trod_int Try.underlying32 ((jf 0 _ rfl).trans m0)
  obtain rfl := cell_of cellsU e0 (c := c0) (by first | rfl | (rw [cellsU]; rfl))
  obtain ⟨⟨z1a, z1b⟩, m1⟩ := jg 1 (by omega)
  obtain ⟨b1, e1, _, w1⟩ := DataW.trod_int Try.underlying32 ((jf 1 _ rfl).trans m1)
  obtain rfl := cell_of cellsU e1 (c := c1) (by first | rfl | (rw [cellsU]; rfl))
  obtain ⟨⟨z2a, z2b⟩, m2⟩ := jg 2 (by omega)
  obtain ⟨b2, e2, _, w2⟩ := DataW.trod_int Try.underlying33 ((jf 2 _ rfl).trans m2)
  obtain rfl := cell_of cells32 e2 (c := c2) (by first | rfl | (rw [cells32]; rfl))
  exact ⟨_, _, _, rfl, w0, w1, w2, trivial⟩
theorem openv_area {H : Type} {enc : TypeId × Value → H} {W : World} {base : Nat} {sp : Nat → Bool} {held : Bool} {r : Reach} {b0 : Nat} {v : Value} {x : DataW H} {ps : List MemPlace}
    (hv : Value.okWide Try.prog W r b0 36 v) (h : DataW.Trod enc Try.prog W base sp held 36 v x ps) : ∃ s : Ar, v = s.val ∧ (Lit.int .u64 (s.f)).wf = true ∧ (Lit.int .u64 (s.l)).wf = true ∧ (Lit.int .u32 (s.k)).wf = true ∧ True := by
  obtain ⟨cs, rfl, hsz⟩ := okWide_struct Try.underlying36 hv
  obtain ⟨fuel, hf⟩ := h
  have hf2 : DataW.trod enc Try.prog W base sp held fuel 36 cs.toList = some (x, ps) := hf
  obtain ⟨a0, a1, a2, e, w0, w1, w2, _⟩ := area_of hf2 (by rw [Array.length_toList]; exact hsz.trans cellsAr)
  refine ⟨⟨a0, a1, a2⟩, ?_, w0, w1, w2, trivial⟩
  show Value.agg cs = Value.agg _
  rw [← Array.toArray_toList (xs := cs), e]
def IsAreas (w : World) (p : Option Addr) (n : Nat) (A : Nat → Ar) : Prop := ∀ i, i < n → ∃ b o, p = some ⟨b, o, none⟩ ∧ b < w.heap.size ∧ w.cell? ⟨b, o + i * 3 + 0, none⟩ = some (.int .u64 (A i).f) ∧ w.cell? ⟨b, o + i * 3 + 1, none⟩ = some (.int .u64 (A i).l) ∧ w.cell? ⟨b, o + i * 3 + 2, none⟩ = some (.int .u32 (A i).k) ∧ (Lit.int .u64 (A i).f).wf = true ∧ (Lit.int .u64 (A i).l).wf = true ∧ (Lit.int .u32 (A i).k).wf = true
theorem opens {H : Type} {enc : TypeId × Value → H} {W : World} {base : Nat} {sp : Nat → Bool} {held : Bool} {v : Value} {x : DataW H} {ps : List MemPlace} {r : Reach} {b0 : Nat}
    (hv : Value.okWide Try.prog W r b0 24 v) (h : DataW.Trod enc Try.prog W base sp held 24 v x ps) :
    ∃ (p : Option Addr) (n c : Nat) (A : Nat → Ar), v = .slice p n c ∧ n ≤ maxLen ∧ IsAreas W p n A := by
  obtain ⟨a', l', c', rfl⟩ := okWide_slice Try.underlying24 hv
  obtain ⟨fuel, hf⟩ := h
  rcases Go.Deep.open_slice Try.underlying24 hf with ⟨e, _⟩ | ⟨a, len, cap, m, k, D, Pl, e, hb, hl, hm, hmm, hx, hel⟩
  · have e' : Value.slice a' l' c' = .slice none 0 0 := (List.cons.inj (show [Value.slice a' l' c'] = [.slice none 0 0] from e)).1
    exact ⟨none, 0, 0, fun _ => ⟨0, 0, 0⟩, e', by omega, fun i hi => absurd hi (Nat.not_lt_zero _)⟩
  · have e' : Value.slice a' l' c' = .slice (some a) len cap := (List.cons.inj (show [Value.slice a' l' c'] = [.slice (some a) len cap] from e)).1
    have hlm : len ≤ m := by rw [hmm]; split <;> omega
    rw [e']
    have each : ∀ i, i < len → ∃ q : Ar, a.spot = none ∧ a.block < W.heap.size ∧ W.cell? ⟨a.block, a.off + i * 3 + 0, none⟩ = some (.int .u64 q.f) ∧ W.cell? ⟨a.block, a.off + i * 3 + 1, none⟩ = some (.int .u64 q.l) ∧ W.cell? ⟨a.block, a.off + i * 3 + 2, none⟩ = some (.int .u32 q.k) ∧ (Lit.int .u64 q.f).wf = true ∧ (Lit.int .u64 q.l).wf = true ∧ (Lit.int .u32 q.k).wf = true := fun i hi => by
      obtain ⟨cs', h1, h2⟩ := hel i (by omega)
      obtain ⟨c2', h3, _⟩ := hel 0 (by omega)
      rw [opens_cells] at h1 h3
      obtain ⟨_, hlen, hcell⟩ := World.cells?_some h1
      obtain ⟨_, hlen3, hcell3⟩ := World.cells?_some h3
      have hspot : a.spot = none := by
        have := hcell3 0 (by omega)
        simpa [Addr.add] using World.cell?_spot (this.trans (List.getElem?_eq_getElem (by omega)))
      obtain ⟨a0, a1, a2, ecs, w0, w1, w2, _⟩ := area_of h2 (by omega)
      have ad : ∀ j, (a.add (i * 3)).add j = ⟨a.block, a.off + i * 3 + j, none⟩ := fun j => by
        rw [Go.Deep.add_add]
        unfold Addr.add
        by_cases c : i * 3 + j = 0
        · rw [if_pos c]
          have : i * 3 = 0 ∧ j = 0 := by omega
          obtain ⟨bb, oo, ss⟩ := a
          simp only at hspot
          subst hspot
          simp [this.1, this.2]
        · rw [if_neg c]; simp; try omega
      have k0 := hcell 0 (by omega)
      rw [ad, ecs] at k0
      have k1 := hcell 1 (by omega)
      rw [ad, ecs] at k1
      have k2 := hcell 2 (by omega)
      rw [ad, ecs] at k2
      exact ⟨⟨a0, a1, a2⟩, hspot, (lt_of_cell k0 : _), k0, k1, k2, w0, w1, w2⟩
    haveI : Inhabited Ar := ⟨⟨0, 0, 0⟩⟩
    obtain ⟨q, hq⟩ := Go.Deep.choose_lt each
    refine ⟨some a, len, cap, q, rfl, by omega, fun i hi => ?_⟩
    have := hq i hi
    obtain ⟨bb, oo, ss⟩ := a
    obtain ⟨s, l, rest⟩ := this
    simp only at s
    subst s
    exact ⟨bb, oo, rfl, l, rest⟩

theorem area_wf {x : Ar} (h : (Lit.int .u64 (x.f)).wf = true) (h2 : (Lit.int .u64 (x.l)).wf = true) (h3 : (Lit.int .u32 (x.k)).wf = true) : x.wf := by
  simp [Lit.wf, IntKind.min, IntKind.max, IntKind.signed, IntKind.bits] at h h2 h3
  exact ⟨⟨by omega, by omega⟩, ⟨by omega, by omega⟩, ⟨by omega, by omega⟩⟩
theorem open_area {H : Type} {enc : TypeId × Value → H} {W : World} {base : Nat} {sp : Nat → Bool} {held : Bool} {r : Reach} {b0 : Nat} {v : Value} {x : DataW H} {ps : List MemPlace}
    (hv : Value.okWide Try.prog W r b0 36 v) (h : DataW.Trod enc Try.prog W base sp held 36 v x ps) : ∃ s : Ar, v = .agg #[.int .u64 s.f, .int .u64 s.l, .int .u32 s.k] ∧ s.wf := by
  obtain ⟨s, e, h1, h2, h3, _⟩ := openv_area hv h
  exact ⟨s, e, area_wf h1 h2 h3⟩
theorem open_areas {H : Type} {enc : TypeId × Value → H} {W : World} {base : Nat} {sp : Nat → Bool} {held : Bool} {v : Value} {x : DataW H} {ps : List MemPlace} {r : Reach} {b0 : Nat}
    (hv : Value.okWide Try.prog W r b0 24 v) (h : DataW.Trod enc Try.prog W base sp held 24 v x ps) :
    ∃ (p : Option Addr) (n c : Nat) (A : Nat → Ar), v = .slice p n c ∧ n ≤ maxLen ∧ IsAreas W p n A := opens hv h
end Go.Proofs.Ytkgjeemecpigpaa.Bm
