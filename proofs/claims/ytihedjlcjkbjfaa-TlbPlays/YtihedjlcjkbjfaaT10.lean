/- How a line comes in; that arguments stay as they were. -/
import Derived.Test.YtihedjlcjkbjfaaT9
import Derived.Carry
namespace Go.Proofs.Ytihedjlcjkbjfaa
open Go.ChangeShapes Go.WideShapes Go.ChangeAt Go.RowKit Go.Maps
set_option linter.unusedSimpArgs false
set_option linter.unusedVariables false
set_option maxRecDepth 8000

theorem args_stay {H : Type} {enc : TypeId × Value → H} {P : Program} {W W' : World} (hl : laidOutB P = true) (hb : Below W.heap.size W W') :
    ∀ {ts : List TypeId} {vs : List Value} {ds : List (DataW H)} {ps : List MemPlace}, (ts.all fun t => P.readableRec t && decide (t < P.types.size)) = true →
      DataW.TrodAll enc P W 0 (fun _ => true) true ts vs ds ps → (∀ x ∈ ps, x.block < W.heap.size) → DataW.TrodAll enc P W' 0 (fun b => decide (b < W.heap.size)) true ts vs ds ps
  | [], vs, ds, ps, _, h, _ => by
    obtain ⟨rfl, rfl, rfl⟩ := trodAll_nil h
    exact trodAll_mk0
  | t :: ts, vs, ds, ps, ha, h, hp => by
    obtain ⟨v, vs0, d, ds0, p, q, rfl, rfl, rfl, h0, r0⟩ := trodAll_cons h
    simp only [List.all_cons, Bool.and_eq_true, decide_eq_true_eq] at ha
    exact trodAll_cons_mk (Below.trod hl ha.1.1 ha.1.2 h0 hb (fun x hx => hp x (List.mem_append_left _ hx)))
      (args_stay hl hb (by simpa using ha.2) r0 (fun x hx => hp x (List.mem_append_right _ hx)))

theorem cell_of {P : Program} {t n : Nat} {cs : List Value} {c v : Value} (hc : P.cellsOf t = 1) (h : (cs.drop n).take (P.cellsOf t) = [v]) (hn : cs[n]? = some c) : c = v := by
  rw [hc] at h
  have e : ((cs.drop n).take 1)[0]? = some c := by rw [List.getElem?_take, if_pos (by omega), List.getElem?_drop]; simpa using hn
  rw [h] at e
  simpa using e.symm
theorem wf_i64 {x : Int} (h : (Lit.int .i64 x).wf = true) : -9223372036854775808 ≤ x ∧ x ≤ 9223372036854775807 := by simp [Lit.wf, IntKind.min, IntKind.max, IntKind.signed, IntKind.bits] at h; omega
theorem array9 {α : Type} {cs : Array α} (h : cs.size = 9) : ∃ c0 c1 c2 c3 c4 c5 c6 c7 c8, cs = #[c0, c1, c2, c3, c4, c5, c6, c7, c8] := by
  obtain ⟨l⟩ := cs
  match l, h with
  | [c0, c1, c2, c3, c4, c5, c6, c7, c8], _ => exact ⟨c0, c1, c2, c3, c4, c5, c6, c7, c8, rfl⟩
theorem cell_of2 {P : Program} {t u n k : Nat} {cs : List Value} {c v : Value} (hu : P.cellsOf u = 3) (hk : k < 3) (hc : P.cellsOf t = 1) (h : (((cs.drop n).take (P.cellsOf u)).drop k).take (P.cellsOf t) = [v]) (hn : cs[n + k]? = some c) : c = v := by
  rw [hc, hu] at h
  have e : ((((cs.drop n).take 3).drop k).take 1)[0]? = some c := by rw [List.getElem?_take, if_pos (by omega), List.getElem?_drop, List.getElem?_take, if_pos (by omega), List.getElem?_drop]; simpa using hn
  rw [h] at e
  simpa using e.symm
theorem cellsB : Try.prog.cellsOf 4 = 1 := by kernel_rfl
theorem cellsI : Try.prog.cellsOf 3 = 1 := by kernel_rfl
theorem cellsL : Try.prog.cellsOf 54 = 9 := by kernel_rfl
theorem cellsP : Try.prog.cellsOf 52 = 3 := by kernel_rfl
theorem open_line {H : Type} {enc : TypeId × Value → H} {W : World} {r : Reach} {b0 base : Nat} {sp : Nat → Bool} {held : Bool} {v : Value} {x : DataW H} {ps : List MemPlace}
    (hv : Value.okWide Try.prog W r b0 54 v) (h : DataW.Trod enc Try.prog W base sp held 54 v x ps) :
    ∃ l : Ln, v = l.val ∧ (Lit.int .i64 l.t).wf = true ∧ (Lit.int .i64 l.p).wf = true ∧ (Lit.int .i64 l.f).wf = true := by
  obtain ⟨cs, rfl, hsz⟩ := okWide_struct Try.underlying54 hv
  obtain ⟨c0, c1, c2, c3, c4, c5, c6, c7, c8, rfl⟩ := array9 (hsz.trans cellsL)
  obtain ⟨fuel, hf⟩ := h
  obtain ⟨xs, n, _, _, hl, hlen, hf⟩ := DataW.trod_struct Try.underlying54 hf
  have hg : ∀ i, i < 7 → ∃ y, xs[i]? = some y := fun i hi => ⟨_, List.getElem?_eq_getElem (by rw [hlen]; exact hi)⟩
  obtain ⟨y0, k0⟩ := hg 0 (by omega)
  obtain ⟨y1, k1⟩ := hg 1 (by omega)
  obtain ⟨y2, k2⟩ := hg 2 (by omega)
  obtain ⟨y3, k3⟩ := hg 3 (by omega)
  obtain ⟨y4, k4⟩ := hg 4 (by omega)
  obtain ⟨y5, k5⟩ := hg 5 (by omega)
  obtain ⟨y6, k6⟩ := hg 6 (by omega)
  obtain ⟨a0, e0, _⟩ := DataW.trod_bool Try.underlying4 ((hf 0 _ rfl).trans k0)
  obtain ⟨a1, e1, _, w1⟩ := DataW.trod_int Try.underlying3 ((hf 1 _ rfl).trans k1)
  obtain ⟨a2, e2, _, w2⟩ := DataW.trod_int Try.underlying3 ((hf 2 _ rfl).trans k2)
  obtain ⟨a3, e3, _, w3⟩ := DataW.trod_int Try.underlying3 ((hf 3 _ rfl).trans k3)
  obtain ⟨zs, m, _, _, jl, jlen, jf⟩ := DataW.trod_struct Try.underlying52 ((hf 4 _ rfl).trans k4)
  have jg : ∀ i, i < 3 → ∃ y, zs[i]? = some y := fun i hi => ⟨_, List.getElem?_eq_getElem (by rw [jlen]; exact hi)⟩
  obtain ⟨z0, m0⟩ := jg 0 (by omega)
  obtain ⟨z1, m1⟩ := jg 1 (by omega)
  obtain ⟨z2, m2⟩ := jg 2 (by omega)
  obtain ⟨a4, e4, _⟩ := DataW.trod_bool Try.underlying4 ((jf 0 _ rfl).trans m0)
  obtain ⟨a5, e5, _⟩ := DataW.trod_bool Try.underlying4 ((jf 1 _ rfl).trans m1)
  obtain ⟨a6, e6, _⟩ := DataW.trod_bool Try.underlying4 ((jf 2 _ rfl).trans m2)
  obtain ⟨a7, e7, _⟩ := DataW.trod_bool Try.underlying4 ((hf 5 _ rfl).trans k5)
  obtain ⟨a8, e8, _⟩ := DataW.trod_bool Try.underlying4 ((hf 6 _ rfl).trans k6)
  obtain rfl := cell_of cellsB e0 (c := c0) rfl
  obtain rfl := cell_of cellsI e1 (c := c1) rfl
  obtain rfl := cell_of cellsI e2 (c := c2) rfl
  obtain rfl := cell_of cellsI e3 (c := c3) rfl
  obtain rfl := cell_of2 (n := 4) (k := 0) cellsP (by omega) cellsB e4 (c := c4) rfl
  obtain rfl := cell_of2 (n := 4) (k := 1) cellsP (by omega) cellsB e5 (c := c5) rfl
  obtain rfl := cell_of2 (n := 4) (k := 2) cellsP (by omega) cellsB e6 (c := c6) rfl
  obtain rfl := cell_of cellsB e7 (c := c7) rfl
  obtain rfl := cell_of cellsB e8 (c := c8) rfl
  exact ⟨⟨_, _, _, _, _, _, _, _, _⟩, rfl, w1, w2, w3⟩
/-- a store with one line, or none -/
def oneT (i0 : Nat) (m : Ln) : Nat → Ln := fun i => if i = i0 then m else Ln.zero
theorem one_drop (i0 : Nat) (m : Ln) (f : Ln → Bool) (i : Nat) (hi : i < 16) : dropT (oneT i0 m) f 16 i = oneT i0 (if f m then Ln.zero else m) i := by
  unfold dropT oneT
  rw [if_pos hi]
  by_cases c : i = i0
  · simp only [if_pos c]
  · simp only [if_neg c]
    split <;> rfl
theorem one_fill (y : Int) (l : Ln) (i : Nat) (hi : i < 16) : fillT T0 y l i = oneT (2 * (l.p % 8).toNat + y.toNat) l i := by
  unfold fillT oneT dropT T0
  by_cases c : i = 2 * (l.p % 8).toNat + y.toNat
  · simp only [if_pos c]
  · simp only [if_neg c, if_pos hi]
    split <;> rfl
theorem zero_fits (tag page : Int) : Ln.zero.fits tag page = false := rfl
theorem one_find (y : Nat) (hy : y < 2) (m : Ln) (tag p : Int) (hp : 0 ≤ p) : findT (oneT (2 * (p % 8).toNat + y) m) tag p = if m.fits tag p then (m, true) else (Ln.zero, false) := by
  unfold findT oneT
  rw [if_neg (by omega)]
  generalize (p % 8).toNat = s
  rcases (show y = 0 ∨ y = 1 by omega) with rfl | rfl
  · have a : ¬ (2 * s + 1 = 2 * s + 0) := by omega
    have b : 2 * s = 2 * s + 0 := by omega
    simp only [if_pos b, if_neg a, zero_fits]
    cases m.fits tag p <;> simp
  · have a : ¬ (2 * s = 2 * s + 1) := by omega
    simp only [if_neg a, if_true, zero_fits]
    cases m.fits tag p <;> simp
end Go.Proofs.Ytihedjlcjkbjfaa
