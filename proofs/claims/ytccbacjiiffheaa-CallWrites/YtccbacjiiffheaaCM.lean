/- What comes in: words, calls. -/
import Derived.Test.YtccbacjiiffheaaCL
import Derived.Deep.Slices
namespace Go.Proofs.Ytccbacjiiffheaa
open Go.ChangeShapes Go.WideShapes Go.ChangeAt Go.RowKit Go.Maps
set_option linter.unusedSimpArgs false
set_option linter.unusedVariables false

theorem args_stay {H : Type} {enc : TypeId × Value → H} {P : Program} {W W' : World} (hl : laidOutB P = true) (hb : Below W.heap.size W W') :
    ∀ {ts : List TypeId} {vs : List Value} {ds : List (DataW H)} {ps : List MemPlace}, (ts.all fun t => P.readableRec t && decide (t < P.types.size)) = true →
      DataW.TrodAll enc P W 0 (fun _ => true) true ts vs ds ps → (∀ x ∈ ps, x.block < W.heap.size) → DataW.TrodAll enc P W' 0 (fun b => decide (b < W.heap.size)) true ts vs ds ps
  | [], vs, ds, ps, _, h, _ => by
    obtain ⟨rfl, rfl, rfl⟩ := trodAll_nil h
    exact trodAll_mk0
  | t :: ts, vs, ds, ps, ha, h, hp => by
    obtain ⟨v, vs0, d, ds0, p, q, rfl, rfl, rfl, h0, r0⟩ := trodAll_cons h
    simp only [List.all_cons, Bool.and_eq_true, decide_eq_true_eq] at ha
    exact trodAll_cons_mk (Below.trod hl ha.1.1 ha.1.2 h0 hb (fun x hx => hp x (List.mem_append_left _ hx)))
      (args_stay hl hb (by simpa using ha.2) r0 (fun x hx => hp x (List.mem_append_right _ hx)))
theorem cell_of {P : Program} {t n : Nat} {cs : List Value} {c v : Value} (hc : P.cellsOf t = 1) (h : (cs.drop n).take (P.cellsOf t) = [v]) (hn : cs[n]? = some c) : c = v := by
  rw [hc] at h
  have e : ((cs.drop n).take 1)[0]? = some c := by rw [List.getElem?_take, if_pos (by omega), List.getElem?_drop]; simpa using hn
  rw [h] at e
  simpa using e.symm

theorem cellsU : Try.prog.cellsOf 22 = 1 := by kernel_rfl
theorem cellsI : Try.prog.cellsOf 3 = 1 := by kernel_rfl
theorem cellsB : Try.prog.cellsOf 4 = 1 := by kernel_rfl
theorem cellsW : Try.prog.cellsOf 24 = 6 := by kernel_rfl
theorem cells5 : Try.prog.cellsOf 47 = 5 := by kernel_rfl
theorem cellsC : Try.prog.cellsOf 30 = 13 := by kernel_rfl
theorem cellsR : Try.prog.cellsOf 26 = 2 := by kernel_rfl
theorem cellsP : Try.prog.cellsOf 28 = 3 := by kernel_rfl
theorem wf_u64 {x : Int} (h : (Lit.int .u64 x).wf = true) : 0 ≤ x ∧ x < 18446744073709551616 := by simp [Lit.wf, IntKind.min, IntKind.max, IntKind.signed, IntKind.bits] at h; omega
theorem wf_i64 {x : Int} (h : (Lit.int .i64 x).wf = true) : -9223372036854775808 ≤ x ∧ x ≤ 9223372036854775807 := by simp [Lit.wf, IntKind.min, IntKind.max, IntKind.signed, IntKind.bits] at h; omega
theorem words_cells {H : Type} {enc : TypeId × Value → H} {W : World} {base : Nat} {sp : Nat → Bool} {held : Bool} {x : DataW H} {ps : List MemPlace} {fuel : Nat} {cs : List Value} (hf2 : DataW.trod enc Try.prog W base sp held fuel 24 cs = some (x, ps)) (hl : cs.length = 6) :
    ∃ a0 a1 a2 a3 a4 a5 : Int, cs = [.int .u64 a0, .int .u64 a1, .int .u64 a2, .int .u64 a3, .int .u64 a4, .int .u64 a5] ∧ (Lit.int .u64 a0).wf = true ∧ (Lit.int .u64 a1).wf = true ∧ (Lit.int .u64 a2).wf = true ∧ (Lit.int .u64 a3).wf = true ∧ (Lit.int .u64 a4).wf = true ∧ (Lit.int .u64 a5).wf = true := by
  obtain ⟨c0, c1, c2, c3, c4, c5, hcs⟩ : ∃ c0 c1 c2 c3 c4 c5, cs = [c0, c1, c2, c3, c4, c5] := by
    revert hl
    match cs with
    | [c0, c1, c2, c3, c4, c5] => intro _; exact ⟨c0, c1, c2, c3, c4, c5, rfl⟩
    | [] => intro q; cases q
    | [_] => intro q; cases q
    | [_, _] => intro q; cases q
    | [_, _, _] => intro q; cases q
    | [_, _, _, _] => intro q; cases q
    | [_, _, _, _, _] => intro q; cases q
    | _ :: _ :: _ :: _ :: _ :: _ :: _ :: _ => intro q; simp at q
  subst hcs
  obtain ⟨xs, m, _, _, jl, jlen, jf⟩ := DataW.trod_array Try.underlying24 hf2
  have hg : ∀ i, i < 6 → ∃ y, xs[i]? = some y := fun i hi => ⟨_, List.getElem?_eq_getElem (by rw [jlen]; exact hi)⟩
  obtain ⟨y0, k0⟩ := hg 0 (by omega)
  obtain ⟨a0, e0, _, w0⟩ := DataW.trod_int Try.underlying22 ((jf 0 (by omega)).trans k0)
  obtain rfl := cell_of cellsU e0 (c := c0) (by rw [cellsU]; rfl)
  obtain ⟨y1, k1⟩ := hg 1 (by omega)
  obtain ⟨a1, e1, _, w1⟩ := DataW.trod_int Try.underlying22 ((jf 1 (by omega)).trans k1)
  obtain rfl := cell_of cellsU e1 (c := c1) (by rw [cellsU]; rfl)
  obtain ⟨y2, k2⟩ := hg 2 (by omega)
  obtain ⟨a2, e2, _, w2⟩ := DataW.trod_int Try.underlying22 ((jf 2 (by omega)).trans k2)
  obtain rfl := cell_of cellsU e2 (c := c2) (by rw [cellsU]; rfl)
  obtain ⟨y3, k3⟩ := hg 3 (by omega)
  obtain ⟨a3, e3, _, w3⟩ := DataW.trod_int Try.underlying22 ((jf 3 (by omega)).trans k3)
  obtain rfl := cell_of cellsU e3 (c := c3) (by rw [cellsU]; rfl)
  obtain ⟨y4, k4⟩ := hg 4 (by omega)
  obtain ⟨a4, e4, _, w4⟩ := DataW.trod_int Try.underlying22 ((jf 4 (by omega)).trans k4)
  obtain rfl := cell_of cellsU e4 (c := c4) (by rw [cellsU]; rfl)
  obtain ⟨y5, k5⟩ := hg 5 (by omega)
  obtain ⟨a5, e5, _, w5⟩ := DataW.trod_int Try.underlying22 ((jf 5 (by omega)).trans k5)
  obtain rfl := cell_of cellsU e5 (c := c5) (by rw [cellsU]; rfl)
  exact ⟨_, _, _, _, _, _, rfl, w0, w1, w2, w3, w4, w5⟩
theorem five_cells {H : Type} {enc : TypeId × Value → H} {W : World} {base : Nat} {sp : Nat → Bool} {held : Bool} {x : DataW H} {ps : List MemPlace} {fuel : Nat} {cs : List Value} (hf2 : DataW.trod enc Try.prog W base sp held fuel 47 cs = some (x, ps)) (hl : cs.length = 5) :
    ∃ a0 a1 a2 a3 a4 : Int, cs = [.int .u64 a0, .int .u64 a1, .int .u64 a2, .int .u64 a3, .int .u64 a4] ∧ (Lit.int .u64 a0).wf = true ∧ (Lit.int .u64 a1).wf = true ∧ (Lit.int .u64 a2).wf = true ∧ (Lit.int .u64 a3).wf = true ∧ (Lit.int .u64 a4).wf = true := by
  obtain ⟨c0, c1, c2, c3, c4, hcs⟩ : ∃ c0 c1 c2 c3 c4, cs = [c0, c1, c2, c3, c4] := by
    revert hl
    match cs with
    | [c0, c1, c2, c3, c4] => intro _; exact ⟨c0, c1, c2, c3, c4, rfl⟩
    | [] => intro q; cases q
    | [_] => intro q; cases q
    | [_, _] => intro q; cases q
    | [_, _, _] => intro q; cases q
    | [_, _, _, _] => intro q; cases q
    | _ :: _ :: _ :: _ :: _ :: _ :: _ => intro q; simp at q
  subst hcs
  obtain ⟨xs, m, _, _, jl, jlen, jf⟩ := DataW.trod_array Try.underlying47 hf2
  have hg : ∀ i, i < 5 → ∃ y, xs[i]? = some y := fun i hi => ⟨_, List.getElem?_eq_getElem (by rw [jlen]; exact hi)⟩
  obtain ⟨y0, k0⟩ := hg 0 (by omega)
  obtain ⟨a0, e0, _, w0⟩ := DataW.trod_int Try.underlying22 ((jf 0 (by omega)).trans k0)
  obtain rfl := cell_of cellsU e0 (c := c0) (by rw [cellsU]; rfl)
  obtain ⟨y1, k1⟩ := hg 1 (by omega)
  obtain ⟨a1, e1, _, w1⟩ := DataW.trod_int Try.underlying22 ((jf 1 (by omega)).trans k1)
  obtain rfl := cell_of cellsU e1 (c := c1) (by rw [cellsU]; rfl)
  obtain ⟨y2, k2⟩ := hg 2 (by omega)
  obtain ⟨a2, e2, _, w2⟩ := DataW.trod_int Try.underlying22 ((jf 2 (by omega)).trans k2)
  obtain rfl := cell_of cellsU e2 (c := c2) (by rw [cellsU]; rfl)
  obtain ⟨y3, k3⟩ := hg 3 (by omega)
  obtain ⟨a3, e3, _, w3⟩ := DataW.trod_int Try.underlying22 ((jf 3 (by omega)).trans k3)
  obtain rfl := cell_of cellsU e3 (c := c3) (by rw [cellsU]; rfl)
  obtain ⟨y4, k4⟩ := hg 4 (by omega)
  obtain ⟨a4, e4, _, w4⟩ := DataW.trod_int Try.underlying22 ((jf 4 (by omega)).trans k4)
  obtain rfl := cell_of cellsU e4 (c := c4) (by rw [cellsU]; rfl)
  exact ⟨_, _, _, _, _, rfl, w0, w1, w2, w3, w4⟩

theorem wd_wf {a0 a1 a2 a3 a4 a5 : Int} (h0 : (Lit.int .u64 a0).wf = true) (h1 : (Lit.int .u64 a1).wf = true) (h2 : (Lit.int .u64 a2).wf = true) (h3 : (Lit.int .u64 a3).wf = true) (h4 : (Lit.int .u64 a4).wf = true) (h5 : (Lit.int .u64 a5).wf = true) : (Wd.mk a0 a1 a2 a3 a4 a5).wf := fun k => by
  match k with
  | 0 => exact wf_u64 h0
  | 1 => exact wf_u64 h1
  | 2 => exact wf_u64 h2
  | 3 => exact wf_u64 h3
  | 4 => exact wf_u64 h4
  | 5 => exact wf_u64 h5
  | k + 6 =>
    have : (Wd.mk a0 a1 a2 a3 a4 a5).at (k + 6) = 0 := by simp [Wd.at, Wd.list]
    rw [this]; omega
theorem open_wd {H : Type} {enc : TypeId × Value → H} {W : World} {base : Nat} {sp : Nat → Bool} {held : Bool} {r : Reach} {b0 : Nat} {v : Value} {x : DataW H} {ps : List MemPlace}
    (hv : Value.okWide Try.prog W r b0 24 v) (h : DataW.Trod enc Try.prog W base sp held 24 v x ps) : ∃ D : Wd, v = D.val ∧ D.wf := by
  have hs := Try.underlying24
  have hv' := hv
  simp only [Value.okWide, hs] at hv'
  obtain ⟨cs, rfl, hsz, _⟩ := hv'
  obtain ⟨fuel, hf⟩ := h
  have hf2 : DataW.trod enc Try.prog W base sp held fuel 24 cs.toList = some (x, ps) := hf
  obtain ⟨a0, a1, a2, a3, a4, a5, e, h0, h1, h2, h3, h4, h5⟩ := words_cells hf2 (by rw [Array.length_toList]; exact hsz.trans cellsW)
  refine ⟨⟨a0, a1, a2, a3, a4, a5⟩, ?_, wd_wf h0 h1 h2 h3 h4 h5⟩
  have : cs = #[.int .u64 a0, .int .u64 a1, .int .u64 a2, .int .u64 a3, .int .u64 a4, .int .u64 a5] := by rw [← Array.toArray_toList (xs := cs), e]
  rw [this]
theorem open_w5 {H : Type} {enc : TypeId × Value → H} {W : World} {base : Nat} {sp : Nat → Bool} {held : Bool} {r : Reach} {b0 : Nat} {v : Value} {x : DataW H} {ps : List MemPlace}
    (hv : Value.okWide Try.prog W r b0 47 v) (h : DataW.Trod enc Try.prog W base sp held 47 v x ps) : ∃ a0 a1 a2 a3 a4 : Int, v = .agg #[.int .u64 a0, .int .u64 a1, .int .u64 a2, .int .u64 a3, .int .u64 a4] ∧ (Lit.int .u64 a0).wf = true ∧ (Lit.int .u64 a1).wf = true ∧ (Lit.int .u64 a2).wf = true ∧ (Lit.int .u64 a3).wf = true ∧ (Lit.int .u64 a4).wf = true := by
  have hs := Try.underlying47
  have hv' := hv
  simp only [Value.okWide, hs] at hv'
  obtain ⟨cs, rfl, hsz, _⟩ := hv'
  obtain ⟨fuel, hf⟩ := h
  have hf2 : DataW.trod enc Try.prog W base sp held fuel 47 cs.toList = some (x, ps) := hf
  obtain ⟨a0, a1, a2, a3, a4, e, hh⟩ := five_cells hf2 (by rw [Array.length_toList]; exact hsz.trans cells5)
  refine ⟨a0, a1, a2, a3, a4, ?_, hh⟩
  have : cs = #[.int .u64 a0, .int .u64 a1, .int .u64 a2, .int .u64 a3, .int .u64 a4] := by rw [← Array.toArray_toList (xs := cs), e]
  rw [this]
/-- the numbers of a call are numbers -/
structure Cl.wf (c : Cl) : Prop where
  op : (Lit.int .i64 c.op).wf = true
  fr : (Lit.int .i64 c.fr).wf = true
  til : (Lit.int .i64 c.til).wf = true
  ad : (Lit.int .u64 c.ad).wf = true
  sz : (Lit.int .i64 c.sz).wf = true
  x : (Lit.int .u64 c.x).wf = true
  id : (Lit.int .i64 c.id).wf = true
  a : (Lit.int .i64 c.a).wf = true
  b : (Lit.int .i64 c.b).wf = true
  d : (Lit.int .i64 c.d).wf = true
theorem open_cl {H : Type} {enc : TypeId × Value → H} {W : World} {base : Nat} {sp : Nat → Bool} {held : Bool} {r : Reach} {b0 : Nat} {v : Value} {x : DataW H} {ps : List MemPlace}
    (hv : Value.okWide Try.prog W r b0 30 v) (h : DataW.Trod enc Try.prog W base sp held 30 v x ps) : ∃ c : Cl, v = c.val ∧ c.wf := by
  obtain ⟨cs, rfl, hsz⟩ := okWide_struct Try.underlying30 hv
  obtain ⟨fuel, hf⟩ := h
  have hf2 : DataW.trod enc Try.prog W base sp held fuel 30 cs.toList = some (x, ps) := hf
  have hl3 : cs.toList.length = 13 := by rw [Array.length_toList]; exact hsz.trans cellsC
  obtain ⟨c0, c1, c2, c3, c4, c5, c6, c7, c8, c9, c10, c11, c12, hcs⟩ : ∃ c0 c1 c2 c3 c4 c5 c6 c7 c8 c9 c10 c11 c12, cs.toList = [c0, c1, c2, c3, c4, c5, c6, c7, c8, c9, c10, c11, c12] := by
    revert hl3
    match cs.toList with
    | [c0, c1, c2, c3, c4, c5, c6, c7, c8, c9, c10, c11, c12] => intro _; exact ⟨c0, c1, c2, c3, c4, c5, c6, c7, c8, c9, c10, c11, c12, rfl⟩
    | [] => intro q; cases q
    | [_] => intro q; cases q
    | [_, _] => intro q; cases q
    | [_, _, _] => intro q; cases q
    | [_, _, _, _] => intro q; cases q
    | [_, _, _, _, _] => intro q; cases q
    | [_, _, _, _, _, _] => intro q; cases q
    | [_, _, _, _, _, _, _] => intro q; cases q
    | [_, _, _, _, _, _, _, _] => intro q; cases q
    | [_, _, _, _, _, _, _, _, _] => intro q; cases q
    | [_, _, _, _, _, _, _, _, _, _] => intro q; cases q
    | [_, _, _, _, _, _, _, _, _, _, _] => intro q; cases q
    | [_, _, _, _, _, _, _, _, _, _, _, _] => intro q; cases q
    | _ :: _ :: _ :: _ :: _ :: _ :: _ :: _ :: _ :: _ :: _ :: _ :: _ :: _ :: _ => intro q; simp at q
  rw [hcs] at hf2
  obtain ⟨zs, m, _, _, jl, jlen, jf⟩ := DataW.trod_struct Try.underlying30 hf2
  have jg : ∀ i, i < 10 → ∃ y, zs[i]? = some y := fun i hi => ⟨_, List.getElem?_eq_getElem (by rw [jlen]; exact hi)⟩
  obtain ⟨z0, m0⟩ := jg 0 (by omega)
  obtain ⟨z1, m1⟩ := jg 1 (by omega)
  obtain ⟨z2, m2⟩ := jg 2 (by omega)
  obtain ⟨z3, m3⟩ := jg 3 (by omega)
  obtain ⟨z4, m4⟩ := jg 4 (by omega)
  obtain ⟨z5, m5⟩ := jg 5 (by omega)
  obtain ⟨z6, m6⟩ := jg 6 (by omega)
  obtain ⟨z7, m7⟩ := jg 7 (by omega)
  obtain ⟨z8, m8⟩ := jg 8 (by omega)
  obtain ⟨z9, m9⟩ := jg 9 (by omega)
  obtain ⟨a0, e0, _, w0⟩ := DataW.trod_int Try.underlying3 ((jf 0 _ rfl).trans m0)
  obtain rfl := cell_of cellsI e0 (c := c0) (by first | rfl | (rw [cellsI]; rfl))
  obtain ⟨a6, e6, _, w6⟩ := DataW.trod_int Try.underlying22 ((jf 3 _ rfl).trans m3)
  obtain rfl := cell_of cellsU e6 (c := c6) (by first | rfl | (rw [cellsU]; rfl))
  obtain ⟨a7, e7, _, w7⟩ := DataW.trod_int Try.underlying3 ((jf 4 _ rfl).trans m4)
  obtain rfl := cell_of cellsI e7 (c := c7) (by first | rfl | (rw [cellsI]; rfl))
  obtain ⟨a8, e8, _, w8⟩ := DataW.trod_int Try.underlying22 ((jf 5 _ rfl).trans m5)
  obtain rfl := cell_of cellsU e8 (c := c8) (by first | rfl | (rw [cellsU]; rfl))
  obtain ⟨a9, e9, _, w9⟩ := DataW.trod_int Try.underlying3 ((jf 6 _ rfl).trans m6)
  obtain rfl := cell_of cellsI e9 (c := c9) (by first | rfl | (rw [cellsI]; rfl))
  obtain ⟨a10, e10, _, w10⟩ := DataW.trod_int Try.underlying3 ((jf 7 _ rfl).trans m7)
  obtain rfl := cell_of cellsI e10 (c := c10) (by first | rfl | (rw [cellsI]; rfl))
  obtain ⟨a11, e11, _, w11⟩ := DataW.trod_int Try.underlying3 ((jf 8 _ rfl).trans m8)
  obtain rfl := cell_of cellsI e11 (c := c11) (by first | rfl | (rw [cellsI]; rfl))
  obtain ⟨a12, e12, _, w12⟩ := DataW.trod_int Try.underlying3 ((jf 9 _ rfl).trans m9)
  obtain rfl := cell_of cellsI e12 (c := c12) (by first | rfl | (rw [cellsI]; rfl))
  have g1 := (jf 1 _ rfl).trans m1
  have g2 := (jf 2 _ rfl).trans m2
  obtain ⟨z1a, z1b⟩ := z1
  obtain ⟨z2a, z2b⟩ := z2
  obtain ⟨ys, _, _, _, _, ylen, yf⟩ := DataW.trod_struct Try.underlying26 (show DataW.trod enc Try.prog W base sp held _ 26 [c1, c2] = some (z1a, z1b) from g1)
  obtain ⟨ps', _, _, _, _, plen, pf⟩ := DataW.trod_struct Try.underlying28 (show DataW.trod enc Try.prog W base sp held _ 28 [c3, c4, c5] = some (z2a, z2b) from g2)
  have yg : ∀ i, i < 2 → ∃ y, ys[i]? = some y := fun i hi => ⟨_, List.getElem?_eq_getElem (by rw [ylen]; exact hi)⟩
  have pg : ∀ i, i < 3 → ∃ y, ps'[i]? = some y := fun i hi => ⟨_, List.getElem?_eq_getElem (by rw [plen]; exact hi)⟩
  obtain ⟨t0, n0⟩ := yg 0 (by omega)
  obtain ⟨t1, n1⟩ := yg 1 (by omega)
  obtain ⟨s0, o0⟩ := pg 0 (by omega)
  obtain ⟨s1, o1⟩ := pg 1 (by omega)
  obtain ⟨s2, o2⟩ := pg 2 (by omega)
  obtain ⟨a1, e1, _, w1⟩ := DataW.trod_int Try.underlying3 ((yf 0 _ rfl).trans n0)
  obtain ⟨a2, e2, _, w2⟩ := DataW.trod_int Try.underlying3 ((yf 1 _ rfl).trans n1)
  obtain ⟨a3, e3, _⟩ := DataW.trod_bool Try.underlying4 ((pf 0 _ rfl).trans o0)
  obtain ⟨a4, e4, _⟩ := DataW.trod_bool Try.underlying4 ((pf 1 _ rfl).trans o1)
  obtain ⟨a5, e5, _⟩ := DataW.trod_bool Try.underlying4 ((pf 2 _ rfl).trans o2)
  obtain rfl := cell_of cellsI e1 (c := c1) (by first | rfl | (rw [cellsI]; rfl))
  obtain rfl := cell_of cellsI e2 (c := c2) (by first | rfl | (rw [cellsI]; rfl))
  obtain rfl := cell_of cellsB e3 (c := c3) (by first | rfl | (rw [cellsB]; rfl))
  obtain rfl := cell_of cellsB e4 (c := c4) (by first | rfl | (rw [cellsB]; rfl))
  obtain rfl := cell_of cellsB e5 (c := c5) (by first | rfl | (rw [cellsB]; rfl))
  refine ⟨⟨a0, a1, a2, a3, a4, a5, a6, a7, a8, a9, a10, a11, a12⟩, ?_, ⟨w0, w1, w2, w6, w7, w8, w9, w10, w11, w12⟩⟩
  show Value.agg cs = Value.agg _
  rw [← Array.toArray_toList (xs := cs), hcs]
end Go.Proofs.Ytccbacjiiffheaa
