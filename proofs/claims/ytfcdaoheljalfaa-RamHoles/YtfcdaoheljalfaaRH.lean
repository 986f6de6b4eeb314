/- How a range comes in; that arguments stay as they were; small laws. -/
import Derived.Test.YtfcdaoheljalfaaR18
import Derived.Lib.SmallJoins
import Derived.Carry
import Derived.Handy
namespace Go.Proofs.Ytfcdaoheljalfaa
open Go.ChangeShapes Go.WideShapes Go.ChangeAt Go.RowKit Go.Maps
set_option linter.unusedSimpArgs false
set_option linter.unusedVariables false

theorem args_stay {H : Type} {enc : TypeId × Value → H} {P : Program} {W W' : World} (hl : laidOutB P = true) (hb : Below W.heap.size W W') :
    ∀ {ts : List TypeId} {vs : List Value} {ds : List (DataW H)} {ps : List MemPlace}, (ts.all fun t => P.readableRec t && decide (t < P.types.size)) = true →
      DataW.TrodAll enc P W 0 (fun _ => true) true ts vs ds ps → (∀ x ∈ ps, x.block < W.heap.size) → DataW.TrodAll enc P W' 0 (fun b => decide (b < W.heap.size)) true ts vs ds ps
  | [], vs, ds, ps, _, h, _ => by
    obtain ⟨rfl, rfl, rfl⟩ := trodAll_nil h
    exact trodAll_mk0
  | t :: ts, vs, ds, ps, ha, h, hp => by
    obtain ⟨v, vs0, d, ds0, p, q, rfl, rfl, rfl, h0, r0⟩ := trodAll_cons h
    simp only [List.all_cons, Bool.and_eq_true, decide_eq_true_eq] at ha
    exact trodAll_cons_mk (Below.trod hl ha.1.1 ha.1.2 h0 hb (fun x hx => hp x (List.mem_append_left _ hx)))
      (args_stay hl hb (by simpa using ha.2) r0 (fun x hx => hp x (List.mem_append_right _ hx)))

theorem cell_of {P : Program} {t n : Nat} {cs : List Value} {c v : Value} (hc : P.cellsOf t = 1) (h : (cs.drop n).take (P.cellsOf t) = [v]) (hn : cs[n]? = some c) : c = v := by
  rw [hc] at h
  have e : ((cs.drop n).take 1)[0]? = some c := by rw [List.getElem?_take, if_pos (by omega), List.getElem?_drop]; simpa using hn
  rw [h] at e
  simpa using e.symm
theorem cell_keep {B b i : Nat} {w w' : World} (h : Below B w w') (hb : b < B) : w'.cell? ⟨b, i, none⟩ = w.cell? ⟨b, i, none⟩ := by
  have e : w'.heap[b]? = w.heap[b]? := h.block b hb
  simp [World.cell?, e]
theorem cell_next {B b i : Nat} {w w' : World} {v : Value} (h : Below B w w') (hb : b < B) (hx : w.cell? ⟨b, i, none⟩ = some v) : w'.cell? ⟨b, i, none⟩ = some v := (cell_keep h hb).trans hx
theorem cell_old {b i : Nat} {w : World} (hb : b < w.heap.size) (o : Obj) : (w.alloc o).cell? ⟨b, i, none⟩ = w.cell? ⟨b, i, none⟩ := cell_keep (B := w.heap.size) (Go.Joins.below_alloc1 w o) hb
theorem below_then {w w1 w2 : World} (h : Below w.heap.size w w1) (k : Below w1.heap.size w1 w2) : Below w.heap.size w w2 := h.trans (Go.Joins.below_le k h.size)
theorem below_new {w w1 : World} (h : Below w.heap.size w w1) (o : Obj) : Below w.heap.size w (w1.alloc o) := h.alloc h.size o
theorem below_new2 {w w1 : World} (h : Below w.heap.size w w1) (o o2 : Obj) : Below w.heap.size w ((w1.alloc o).alloc o2) := below_new (below_new h o) o2
theorem wf_u64 {x : Int} (h : (Lit.int .u64 x).wf = true) : 0 ≤ x ∧ x < 18446744073709551616 := by simp [Lit.wf, IntKind.min, IntKind.max, IntKind.signed, IntKind.bits] at h; omega
theorem wf_i64 {x : Int} (h : (Lit.int .i64 x).wf = true) : -9223372036854775808 ≤ x ∧ x ≤ 9223372036854775807 := by simp [Lit.wf, IntKind.min, IntKind.max, IntKind.signed, IntKind.bits] at h; omega
theorem cellsI : Try.prog.cellsOf 3 = 1 := by kernel_rfl
theorem cellsR : Try.prog.cellsOf 53 = 2 := by kernel_rfl
theorem open_range {H : Type} {enc : TypeId × Value → H} {W : World} {r : Reach} {b0 base : Nat} {sp : Nat → Bool} {held : Bool} {v : Value} {x : DataW H} {ps : List MemPlace}
    (hv : Value.okWide Try.prog W r b0 53 v) (h : DataW.Trod enc Try.prog W base sp held 53 v x ps) :
    ∃ (a b : Int), v = .agg #[.int .i64 a, .int .i64 b] ∧ (Lit.int .i64 a).wf = true ∧ (Lit.int .i64 b).wf = true := by
  obtain ⟨cs, rfl, hsz⟩ := okWide_struct Try.underlying53 hv
  obtain ⟨c0, c1, rfl⟩ := Go.Joins.array2 (hsz.trans cellsR)
  obtain ⟨fuel, hf⟩ := h
  obtain ⟨xs, n, _, _, hl, hlen, hf⟩ := DataW.trod_struct Try.underlying53 hf
  have hg : ∀ i, i < 2 → ∃ y, xs[i]? = some y := fun i hi => ⟨_, List.getElem?_eq_getElem (by rw [hlen]; exact hi)⟩
  obtain ⟨y0, k0⟩ := hg 0 (by omega)
  obtain ⟨y1, k1⟩ := hg 1 (by omega)
  obtain ⟨a, e0, _, wa⟩ := DataW.trod_int Try.underlying3 ((hf 0 _ rfl).trans k0)
  obtain ⟨b, e1, _, wb⟩ := DataW.trod_int Try.underlying3 ((hf 1 _ rfl).trans k1)
  obtain rfl := cell_of cellsI e0 (c := c0) rfl
  obtain rfl := cell_of cellsI e1 (c := c1) rfl
  exact ⟨_, _, rfl, wa, wb⟩
end Go.Proofs.Ytfcdaoheljalfaa
