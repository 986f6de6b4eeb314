/- What comes in: states, faults, calls. -/
import Derived.Test.YtcieglidghnidaaA4
import Derived.Deep.Slices
namespace Go.Proofs.Ytcieglidghnidaa
open Go.ChangeShapes Go.WideShapes Go.ChangeAt Go.RowKit Go.Maps
set_option linter.unusedSimpArgs false
set_option linter.unusedVariables false

theorem args_stay {H : Type} {enc : TypeId × Value → H} {P : Program} {W W' : World} (hl : laidOutB P = true) (hb : Below W.heap.size W W') :
    ∀ {ts : List TypeId} {vs : List Value} {ds : List (DataW H)} {ps : List MemPlace}, (ts.all fun t => P.readableRec t && decide (t < P.types.size)) = true →
      DataW.TrodAll enc P W 0 (fun _ => true) true ts vs ds ps → (∀ x ∈ ps, x.block < W.heap.size) → DataW.TrodAll enc P W' 0 (fun b => decide (b < W.heap.size)) true ts vs ds ps
  | [], vs, ds, ps, _, h, _ => by
    obtain ⟨rfl, rfl, rfl⟩ := trodAll_nil h
    exact trodAll_mk0
  | t :: ts, vs, ds, ps, ha, h, hp => by
    obtain ⟨v, vs0, d, ds0, p, q, rfl, rfl, rfl, h0, r0⟩ := trodAll_cons h
    simp only [List.all_cons, Bool.and_eq_true, decide_eq_true_eq] at ha
    exact trodAll_cons_mk (Below.trod hl ha.1.1 ha.1.2 h0 hb (fun x hx => hp x (List.mem_append_left _ hx)))
      (args_stay hl hb (by simpa using ha.2) r0 (fun x hx => hp x (List.mem_append_right _ hx)))
theorem cell_of {P : Program} {t n : Nat} {cs : List Value} {c v : Value} (hc : P.cellsOf t = 1) (h : (cs.drop n).take (P.cellsOf t) = [v]) (hn : cs[n]? = some c) : c = v := by
  rw [hc] at h
  have e : ((cs.drop n).take 1)[0]? = some c := by rw [List.getElem?_take, if_pos (by omega), List.getElem?_drop]; simpa using hn
  rw [h] at e
  simpa using e.symm

theorem cellsU : Try.prog.cellsOf 22 = 1 := by kernel_rfl
theorem cellsI : Try.prog.cellsOf 3 = 1 := by kernel_rfl
theorem cellsB : Try.prog.cellsOf 4 = 1 := by kernel_rfl
theorem lt_of_cell {w : World} {a : Addr} {v : Value} (h : w.cell? a = some v) : a.block < w.heap.size := by
  unfold World.cell? at h
  by_cases c : a.block < w.heap.size
  · exact c
  · rw [Array.getElem?_eq_none (by omega)] at h
    simp at h
theorem regs_cells {H : Type} {enc : TypeId × Value → H} {W : World} {base : Nat} {sp : Nat → Bool} {held : Bool} {x : DataW H} {ps : List MemPlace} {fuel : Nat} {cs : List Value} (hf : DataW.trod enc Try.prog W base sp held fuel 24 cs = some (x, ps)) (hl : cs.length = 4) :
    ∃ (a0 : Int) (a1 : Int) (a2 : Int) (a3 : Int), cs = [.int .u64 a0, .int .u64 a1, .int .u64 a2, .int .u64 a3] ∧ (Lit.int .u64 a0).wf = true ∧ (Lit.int .u64 a1).wf = true ∧ (Lit.int .u64 a2).wf = true ∧ (Lit.int .u64 a3).wf = true ∧ True := by
  obtain ⟨c0, c1, c2, c3, hcs⟩ : ∃ c0 c1 c2 c3, cs = [c0, c1, c2, c3] := by
    revert hl
    match cs with
    | [c0, c1, c2, c3] => intro _; exact ⟨c0, c1, c2, c3, rfl⟩
    | [] => intro q; cases q
    | [_] => intro q; cases q
    | [_, _] => intro q; cases q
    | [_, _, _] => intro q; cases q
    | _ :: _ :: _ :: _ :: _ :: _ => intro q; simp at q
  subst hcs
  obtain ⟨zs, m, _, _, jl, jlen, jf⟩ := DataW.trod_array Try.underlying24 hf
  have jg : ∀ i, i < 4 → ∃ y, zs[i]? = some y := fun i hi => ⟨_, List.getElem?_eq_getElem (by rw [jlen]; exact hi)⟩
  obtain ⟨⟨z0a, z0b⟩, m0⟩ := jg 0 (by omega)
  obtain ⟨b0, e0, _, w0⟩ := DataW.trod_int Try.underlying22 ((jf 0 (by omega)).trans m0)
  obtain rfl := cell_of cellsU e0 (c := c0) (by first | rfl | (rw [cellsU]; rfl))
  obtain ⟨⟨z1a, z1b⟩, m1⟩ := jg 1 (by omega)
  obtain ⟨b1, e1, _, w1⟩ := DataW.trod_int Try.underlying22 ((jf 1 (by omega)).trans m1)
  obtain rfl := cell_of cellsU e1 (c := c1) (by first | rfl | (rw [cellsU]; rfl))
  obtain ⟨⟨z2a, z2b⟩, m2⟩ := jg 2 (by omega)
  obtain ⟨b2, e2, _, w2⟩ := DataW.trod_int Try.underlying22 ((jf 2 (by omega)).trans m2)
  obtain rfl := cell_of cellsU e2 (c := c2) (by first | rfl | (rw [cellsU]; rfl))
  obtain ⟨⟨z3a, z3b⟩, m3⟩ := jg 3 (by omega)
  obtain ⟨b3, e3, _, w3⟩ := DataW.trod_int Try.underlying22 ((jf 3 (by omega)).trans m3)
  obtain rfl := cell_of cellsU e3 (c := c3) (by first | rfl | (rw [cellsU]; rfl))
  exact ⟨_, _, _, _, rfl, w0, w1, w2, w3, trivial⟩
theorem fault_cells {H : Type} {enc : TypeId × Value → H} {W : World} {base : Nat} {sp : Nat → Bool} {held : Bool} {x : DataW H} {ps : List MemPlace} {fuel : Nat} {cs : List Value} (hf : DataW.trod enc Try.prog W base sp held fuel 26 cs = some (x, ps)) (hl : cs.length = 2) :
    ∃ (a0 : Int) (a1 : Int), cs = [.int .u64 a0, .int .i64 a1] ∧ (Lit.int .u64 a0).wf = true ∧ (Lit.int .i64 a1).wf = true ∧ True := by
  obtain ⟨c0, c1, hcs⟩ : ∃ c0 c1, cs = [c0, c1] := by
    revert hl
    match cs with
    | [c0, c1] => intro _; exact ⟨c0, c1, rfl⟩
    | [] => intro q; cases q
    | [_] => intro q; cases q
    | _ :: _ :: _ :: _ => intro q; simp at q
  subst hcs
  obtain ⟨zs, m, _, _, jl, jlen, jf⟩ := DataW.trod_struct Try.underlying26 hf
  have jg : ∀ i, i < 2 → ∃ y, zs[i]? = some y := fun i hi => ⟨_, List.getElem?_eq_getElem (by rw [jlen]; exact hi)⟩
  obtain ⟨⟨z0a, z0b⟩, m0⟩ := jg 0 (by omega)
  obtain ⟨b0, e0, _, w0⟩ := DataW.trod_int Try.underlying22 ((jf 0 _ rfl).trans m0)
  obtain rfl := cell_of cellsU e0 (c := c0) (by first | rfl | (rw [cellsU]; rfl))
  obtain ⟨⟨z1a, z1b⟩, m1⟩ := jg 1 (by omega)
  obtain ⟨b1, e1, _, w1⟩ := DataW.trod_int Try.underlying3 ((jf 1 _ rfl).trans m1)
  obtain rfl := cell_of cellsI e1 (c := c1) (by first | rfl | (rw [cellsI]; rfl))
  exact ⟨_, _, rfl, w0, w1, trivial⟩
theorem state_cells {H : Type} {enc : TypeId × Value → H} {W : World} {base : Nat} {sp : Nat → Bool} {held : Bool} {x : DataW H} {ps : List MemPlace} {fuel : Nat} {cs : List Value} (hf : DataW.trod enc Try.prog W base sp held fuel 28 cs = some (x, ps)) (hl : cs.length = 13) :
    ∃ (a0 : Int) (a1 : Int) (a2 : Int) (a3 : Int) (a4 : Int) (a5 : Int) (a6 : Bool) (a7 : Int) (a8 : Int) (a9 : Int) (a10 : Int) (a11 : Int) (a12 : Int), cs = [.int .u64 a0, .int .u64 a1, .int .u64 a2, .int .u64 a3, .int .i64 a4, .int .u64 a5, .bool a6, .int .u64 a7, .int .i64 a8, .int .u64 a9, .int .u64 a10, .int .u64 a11, .int .u64 a12] ∧ (Lit.int .u64 a0).wf = true ∧ (Lit.int .u64 a1).wf = true ∧ (Lit.int .u64 a2).wf = true ∧ (Lit.int .u64 a3).wf = true ∧ (Lit.int .i64 a4).wf = true ∧ (Lit.int .u64 a5).wf = true ∧ (Lit.int .u64 a7).wf = true ∧ (Lit.int .i64 a8).wf = true ∧ (Lit.int .u64 a9).wf = true ∧ (Lit.int .u64 a10).wf = true ∧ (Lit.int .u64 a11).wf = true ∧ (Lit.int .u64 a12).wf = true ∧ True := by
  obtain ⟨c0, c1, c2, c3, c4, c5, c6, c7, c8, c9, c10, c11, c12, hcs⟩ : ∃ c0 c1 c2 c3 c4 c5 c6 c7 c8 c9 c10 c11 c12, cs = [c0, c1, c2, c3, c4, c5, c6, c7, c8, c9, c10, c11, c12] := by
    revert hl
    match cs with
    | [c0, c1, c2, c3, c4, c5, c6, c7, c8, c9, c10, c11, c12] => intro _; exact ⟨c0, c1, c2, c3, c4, c5, c6, c7, c8, c9, c10, c11, c12, rfl⟩
    | [] => intro q; cases q
    | [_] => intro q; cases q
    | [_, _] => intro q; cases q
    | [_, _, _] => intro q; cases q
    | [_, _, _, _] => intro q; cases q
    | [_, _, _, _, _] => intro q; cases q
    | [_, _, _, _, _, _] => intro q; cases q
    | [_, _, _, _, _, _, _] => intro q; cases q
    | [_, _, _, _, _, _, _, _] => intro q; cases q
    | [_, _, _, _, _, _, _, _, _] => intro q; cases q
    | [_, _, _, _, _, _, _, _, _, _] => intro q; cases q
    | [_, _, _, _, _, _, _, _, _, _, _] => intro q; cases q
    | [_, _, _, _, _, _, _, _, _, _, _, _] => intro q; cases q
    | _ :: _ :: _ :: _ :: _ :: _ :: _ :: _ :: _ :: _ :: _ :: _ :: _ :: _ :: _ => intro q; simp at q
  subst hcs
  obtain ⟨zs, m, _, _, jl, jlen, jf⟩ := DataW.trod_struct Try.underlying28 hf
  have jg : ∀ i, i < 6 → ∃ y, zs[i]? = some y := fun i hi => ⟨_, List.getElem?_eq_getElem (by rw [jlen]; exact hi)⟩
  obtain ⟨⟨z0a, z0b⟩, m0⟩ := jg 0 (by omega)
  obtain ⟨b0, b1, b2, b3, q0, w0, w1, w2, w3, _⟩ := regs_cells (show DataW.trod enc Try.prog W base sp held _ 24 [c0, c1, c2, c3] = some (z0a, z0b) from (jf 0 _ rfl).trans m0) rfl
  simp only [List.cons.injEq, and_true] at q0
  obtain ⟨rfl, rfl, rfl, rfl⟩ := q0
  obtain ⟨⟨z1a, z1b⟩, m1⟩ := jg 1 (by omega)
  obtain ⟨b4, e4, _, w4⟩ := DataW.trod_int Try.underlying3 ((jf 1 _ rfl).trans m1)
  obtain rfl := cell_of cellsI e4 (c := c4) (by first | rfl | (rw [cellsI]; rfl))
  obtain ⟨⟨z2a, z2b⟩, m2⟩ := jg 2 (by omega)
  obtain ⟨b5, e5, _, w5⟩ := DataW.trod_int Try.underlying22 ((jf 2 _ rfl).trans m2)
  obtain rfl := cell_of cellsU e5 (c := c5) (by first | rfl | (rw [cellsU]; rfl))
  obtain ⟨⟨z3a, z3b⟩, m3⟩ := jg 3 (by omega)
  obtain ⟨b6, e6, _⟩ := DataW.trod_bool Try.underlying4 ((jf 3 _ rfl).trans m3)
  obtain rfl := cell_of cellsB e6 (c := c6) (by first | rfl | (rw [cellsB]; rfl))
  obtain ⟨⟨z4a, z4b⟩, m4⟩ := jg 4 (by omega)
  obtain ⟨b7, b8, q4, w7, w8, _⟩ := fault_cells (show DataW.trod enc Try.prog W base sp held _ 26 [c7, c8] = some (z4a, z4b) from (jf 4 _ rfl).trans m4) rfl
  simp only [List.cons.injEq, and_true] at q4
  obtain ⟨rfl, rfl⟩ := q4
  obtain ⟨⟨z5a, z5b⟩, m5⟩ := jg 5 (by omega)
  obtain ⟨b9, b10, b11, b12, q5, w9, w10, w11, w12, _⟩ := regs_cells (show DataW.trod enc Try.prog W base sp held _ 24 [c9, c10, c11, c12] = some (z5a, z5b) from (jf 5 _ rfl).trans m5) rfl
  simp only [List.cons.injEq, and_true] at q5
  obtain ⟨rfl, rfl, rfl, rfl⟩ := q5
  exact ⟨_, _, _, _, _, _, _, _, _, _, _, _, _, rfl, w0, w1, w2, w3, w4, w5, w7, w8, w9, w10, w11, w12, trivial⟩
theorem act_cells {H : Type} {enc : TypeId × Value → H} {W : World} {base : Nat} {sp : Nat → Bool} {held : Bool} {x : DataW H} {ps : List MemPlace} {fuel : Nat} {cs : List Value} (hf : DataW.trod enc Try.prog W base sp held fuel 37 cs = some (x, ps)) (hl : cs.length = 8) :
    ∃ (a0 : Int) (a1 : Int) (a2 : Int) (a3 : Int) (a4 : Int) (a5 : Int) (a6 : Int) (a7 : Int), cs = [.int .i64 a0, .int .i64 a1, .int .i64 a2, .int .i64 a3, .int .i64 a4, .int .u64 a5, .int .u64 a6, .int .i64 a7] ∧ (Lit.int .i64 a0).wf = true ∧ (Lit.int .i64 a1).wf = true ∧ (Lit.int .i64 a2).wf = true ∧ (Lit.int .i64 a3).wf = true ∧ (Lit.int .i64 a4).wf = true ∧ (Lit.int .u64 a5).wf = true ∧ (Lit.int .u64 a6).wf = true ∧ (Lit.int .i64 a7).wf = true ∧ True := by
  obtain ⟨c0, c1, c2, c3, c4, c5, c6, c7, hcs⟩ : ∃ c0 c1 c2 c3 c4 c5 c6 c7, cs = [c0, c1, c2, c3, c4, c5, c6, c7] := by
    revert hl
    match cs with
    | [c0, c1, c2, c3, c4, c5, c6, c7] => intro _; exact ⟨c0, c1, c2, c3, c4, c5, c6, c7, rfl⟩
    | [] => intro q; cases q
    | [_] => intro q; cases q
    | [_, _] => intro q; cases q
    | [_, _, _] => intro q; cases q
    | [_, _, _, _] => intro q; cases q
    | [_, _, _, _, _] => intro q; cases q
    | [_, _, _, _, _, _] => intro q; cases q
    | [_, _, _, _, _, _, _] => intro q; cases q
    | _ :: _ :: _ :: _ :: _ :: _ :: _ :: _ :: _ :: _ => intro q; simp at q
  subst hcs
  obtain ⟨zs, m, _, _, jl, jlen, jf⟩ := DataW.trod_struct Try.underlying37 hf
  have jg : ∀ i, i < 7 → ∃ y, zs[i]? = some y := fun i hi => ⟨_, List.getElem?_eq_getElem (by rw [jlen]; exact hi)⟩
  obtain ⟨⟨z0a, z0b⟩, m0⟩ := jg 0 (by omega)
  obtain ⟨b0, e0, _, w0⟩ := DataW.trod_int Try.underlying3 ((jf 0 _ rfl).trans m0)
  obtain rfl := cell_of cellsI e0 (c := c0) (by first | rfl | (rw [cellsI]; rfl))
  obtain ⟨⟨z1a, z1b⟩, m1⟩ := jg 1 (by omega)
  obtain ⟨b1, e1, _, w1⟩ := DataW.trod_int Try.underlying3 ((jf 1 _ rfl).trans m1)
  obtain rfl := cell_of cellsI e1 (c := c1) (by first | rfl | (rw [cellsI]; rfl))
  obtain ⟨⟨z2a, z2b⟩, m2⟩ := jg 2 (by omega)
  obtain ⟨b2, e2, _, w2⟩ := DataW.trod_int Try.underlying3 ((jf 2 _ rfl).trans m2)
  obtain rfl := cell_of cellsI e2 (c := c2) (by first | rfl | (rw [cellsI]; rfl))
  obtain ⟨⟨z3a, z3b⟩, m3⟩ := jg 3 (by omega)
  obtain ⟨b3, e3, _, w3⟩ := DataW.trod_int Try.underlying3 ((jf 3 _ rfl).trans m3)
  obtain rfl := cell_of cellsI e3 (c := c3) (by first | rfl | (rw [cellsI]; rfl))
  obtain ⟨⟨z4a, z4b⟩, m4⟩ := jg 4 (by omega)
  obtain ⟨b4, e4, _, w4⟩ := DataW.trod_int Try.underlying3 ((jf 4 _ rfl).trans m4)
  obtain rfl := cell_of cellsI e4 (c := c4) (by first | rfl | (rw [cellsI]; rfl))
  obtain ⟨⟨z5a, z5b⟩, m5⟩ := jg 5 (by omega)
  obtain ⟨b5, e5, _, w5⟩ := DataW.trod_int Try.underlying22 ((jf 5 _ rfl).trans m5)
  obtain rfl := cell_of cellsU e5 (c := c5) (by first | rfl | (rw [cellsU]; rfl))
  obtain ⟨⟨z6a, z6b⟩, m6⟩ := jg 6 (by omega)
  obtain ⟨b6, b7, q6, w6, w7, _⟩ := fault_cells (show DataW.trod enc Try.prog W base sp held _ 26 [c6, c7] = some (z6a, z6b) from (jf 6 _ rfl).trans m6) rfl
  simp only [List.cons.injEq, and_true] at q6
  obtain ⟨rfl, rfl⟩ := q6
  exact ⟨_, _, _, _, _, _, _, _, rfl, w0, w1, w2, w3, w4, w5, w6, w7, trivial⟩
theorem cellsS : Try.prog.cellsOf 28 = 13 := by kernel_rfl
theorem cellsF : Try.prog.cellsOf 26 = 2 := by kernel_rfl
theorem open_acts_cells : Try.prog.cellsOf 37 = 8 := by kernel_rfl
/-- a fault -/
structure Ft where
  a : Int
  c : Int
abbrev Ft.val (f : Ft) : Value := .agg #[.int .u64 f.a, .int .i64 f.c]
/-- a call that comes in -/
structure Ac where
  kind : Int
  op : Int
  a : Int
  b : Int
  d : Int
  x : Int
  fa : Int
  fc : Int
abbrev Ac.val (s : Ac) : Value := .agg #[.int .i64 s.kind, .int .i64 s.op, .int .i64 s.a, .int .i64 s.b, .int .i64 s.d, .int .u64 s.x, .int .u64 s.fa, .int .i64 s.fc]
theorem open_st {H : Type} {enc : TypeId × Value → H} {W : World} {base : Nat} {sp : Nat → Bool} {held : Bool} {r : Reach} {b0 : Nat} {v : Value} {x : DataW H} {ps : List MemPlace}
    (hv : Value.okWide Try.prog W r b0 28 v) (h : DataW.Trod enc Try.prog W base sp held 28 v x ps) : ∃ s : St, v = s.val ∧ (Lit.int .u64 (s.r0)).wf = true ∧ (Lit.int .u64 (s.r1)).wf = true ∧ (Lit.int .u64 (s.r2)).wf = true ∧ (Lit.int .u64 (s.r3)).wf = true ∧ (Lit.int .i64 (s.told)).wf = true ∧ (Lit.int .u64 (s.en)).wf = true ∧ (Lit.int .u64 (s.fa)).wf = true ∧ (Lit.int .i64 (s.fc)).wf = true ∧ (Lit.int .u64 (s.s0)).wf = true ∧ (Lit.int .u64 (s.s1)).wf = true ∧ (Lit.int .u64 (s.s2)).wf = true ∧ (Lit.int .u64 (s.s3)).wf = true ∧ True := by
  obtain ⟨cs, rfl, hsz⟩ := okWide_struct Try.underlying28 hv
  obtain ⟨fuel, hf⟩ := h
  have hf2 : DataW.trod enc Try.prog W base sp held fuel 28 cs.toList = some (x, ps) := hf
  obtain ⟨a0, a1, a2, a3, a4, a5, a6, a7, a8, a9, a10, a11, a12, e, w0, w1, w2, w3, w4, w5, w7, w8, w9, w10, w11, w12, _⟩ := state_cells hf2 (by rw [Array.length_toList]; exact hsz.trans cellsS)
  refine ⟨⟨a0, a1, a2, a3, a4, a5, a6, a7, a8, a9, a10, a11, a12⟩, ?_, w0, w1, w2, w3, w4, w5, w7, w8, w9, w10, w11, w12, trivial⟩
  show Value.agg cs = Value.agg _
  rw [← Array.toArray_toList (xs := cs), e]
theorem open_ft {H : Type} {enc : TypeId × Value → H} {W : World} {base : Nat} {sp : Nat → Bool} {held : Bool} {r : Reach} {b0 : Nat} {v : Value} {x : DataW H} {ps : List MemPlace}
    (hv : Value.okWide Try.prog W r b0 26 v) (h : DataW.Trod enc Try.prog W base sp held 26 v x ps) : ∃ s : Ft, v = s.val ∧ (Lit.int .u64 (s.a)).wf = true ∧ (Lit.int .i64 (s.c)).wf = true ∧ True := by
  obtain ⟨cs, rfl, hsz⟩ := okWide_struct Try.underlying26 hv
  obtain ⟨fuel, hf⟩ := h
  have hf2 : DataW.trod enc Try.prog W base sp held fuel 26 cs.toList = some (x, ps) := hf
  obtain ⟨a0, a1, e, w0, w1, _⟩ := fault_cells hf2 (by rw [Array.length_toList]; exact hsz.trans cellsF)
  refine ⟨⟨a0, a1⟩, ?_, w0, w1, trivial⟩
  show Value.agg cs = Value.agg _
  rw [← Array.toArray_toList (xs := cs), e]
def IsActs (w : World) (p : Option Addr) (n : Nat) (A : Nat → Ac) : Prop := ∀ i, i < n → ∃ b o, p = some ⟨b, o, none⟩ ∧ b < w.heap.size ∧ w.cell? ⟨b, o + i * 8 + 0, none⟩ = some (.int .i64 (A i).kind) ∧ w.cell? ⟨b, o + i * 8 + 1, none⟩ = some (.int .i64 (A i).op) ∧ w.cell? ⟨b, o + i * 8 + 2, none⟩ = some (.int .i64 (A i).a) ∧ w.cell? ⟨b, o + i * 8 + 3, none⟩ = some (.int .i64 (A i).b) ∧ w.cell? ⟨b, o + i * 8 + 4, none⟩ = some (.int .i64 (A i).d) ∧ w.cell? ⟨b, o + i * 8 + 5, none⟩ = some (.int .u64 (A i).x) ∧ w.cell? ⟨b, o + i * 8 + 6, none⟩ = some (.int .u64 (A i).fa) ∧ w.cell? ⟨b, o + i * 8 + 7, none⟩ = some (.int .i64 (A i).fc) ∧ (Lit.int .u64 (A i).x).wf = true ∧ (Lit.int .u64 (A i).fa).wf = true ∧ (Lit.int .i64 (A i).fc).wf = true
theorem open_acts {H : Type} {enc : TypeId × Value → H} {W : World} {base : Nat} {sp : Nat → Bool} {held : Bool} {v : Value} {x : DataW H} {ps : List MemPlace} {r : Reach} {b0 : Nat}
    (hv : Value.okWide Try.prog W r b0 29 v) (h : DataW.Trod enc Try.prog W base sp held 29 v x ps) :
    ∃ (p : Option Addr) (n c : Nat) (A : Nat → Ac), v = .slice p n c ∧ n ≤ maxLen ∧ IsActs W p n A := by
  obtain ⟨a', l', c', rfl⟩ := okWide_slice Try.underlying29 hv
  obtain ⟨fuel, hf⟩ := h
  rcases Go.Deep.open_slice Try.underlying29 hf with ⟨e, _⟩ | ⟨a, len, cap, m, k, D, Pl, e, hb, hl, hm, hmm, hx, hel⟩
  · have e' : Value.slice a' l' c' = .slice none 0 0 := (List.cons.inj (show [Value.slice a' l' c'] = [.slice none 0 0] from e)).1
    exact ⟨none, 0, 0, fun _ => ⟨0, 0, 0, 0, 0, 0, 0, 0⟩, e', by omega, fun i hi => absurd hi (Nat.not_lt_zero _)⟩
  · have e' : Value.slice a' l' c' = .slice (some a) len cap := (List.cons.inj (show [Value.slice a' l' c'] = [.slice (some a) len cap] from e)).1
    have hlm : len ≤ m := by rw [hmm]; split <;> omega
    rw [e']
    have each : ∀ i, i < len → ∃ q : Ac, a.spot = none ∧ a.block < W.heap.size ∧ W.cell? ⟨a.block, a.off + i * 8 + 0, none⟩ = some (.int .i64 q.kind) ∧ W.cell? ⟨a.block, a.off + i * 8 + 1, none⟩ = some (.int .i64 q.op) ∧ W.cell? ⟨a.block, a.off + i * 8 + 2, none⟩ = some (.int .i64 q.a) ∧ W.cell? ⟨a.block, a.off + i * 8 + 3, none⟩ = some (.int .i64 q.b) ∧ W.cell? ⟨a.block, a.off + i * 8 + 4, none⟩ = some (.int .i64 q.d) ∧ W.cell? ⟨a.block, a.off + i * 8 + 5, none⟩ = some (.int .u64 q.x) ∧ W.cell? ⟨a.block, a.off + i * 8 + 6, none⟩ = some (.int .u64 q.fa) ∧ W.cell? ⟨a.block, a.off + i * 8 + 7, none⟩ = some (.int .i64 q.fc) ∧ (Lit.int .u64 q.x).wf = true ∧ (Lit.int .u64 q.fa).wf = true ∧ (Lit.int .i64 q.fc).wf = true := fun i hi => by
      obtain ⟨cs', h1, h2⟩ := hel i (by omega)
      obtain ⟨c2', h3, _⟩ := hel 0 (by omega)
      rw [open_acts_cells] at h1 h3
      obtain ⟨_, hlen, hcell⟩ := World.cells?_some h1
      obtain ⟨_, hlen3, hcell3⟩ := World.cells?_some h3
      have hspot : a.spot = none := by
        have := hcell3 0 (by omega)
        simpa [Addr.add] using World.cell?_spot (this.trans (List.getElem?_eq_getElem (by omega)))
      obtain ⟨a0, a1, a2, a3, a4, a5, a6, a7, ecs, w0, w1, w2, w3, w4, w5, w6, w7, _⟩ := act_cells h2 (by omega)
      have ad : ∀ j, (a.add (i * 8)).add j = ⟨a.block, a.off + i * 8 + j, none⟩ := fun j => by
        rw [Go.Deep.add_add]
        unfold Addr.add
        by_cases c : i * 8 + j = 0
        · rw [if_pos c]
          have : i * 8 = 0 ∧ j = 0 := by omega
          obtain ⟨bb, oo, ss⟩ := a
          simp only at hspot
          subst hspot
          simp [this.1, this.2]
        · rw [if_neg c]; simp; try omega
      have k0 := hcell 0 (by omega)
      rw [ad, ecs] at k0
      have k1 := hcell 1 (by omega)
      rw [ad, ecs] at k1
      have k2 := hcell 2 (by omega)
      rw [ad, ecs] at k2
      have k3 := hcell 3 (by omega)
      rw [ad, ecs] at k3
      have k4 := hcell 4 (by omega)
      rw [ad, ecs] at k4
      have k5 := hcell 5 (by omega)
      rw [ad, ecs] at k5
      have k6 := hcell 6 (by omega)
      rw [ad, ecs] at k6
      have k7 := hcell 7 (by omega)
      rw [ad, ecs] at k7
      exact ⟨⟨a0, a1, a2, a3, a4, a5, a6, a7⟩, hspot, (lt_of_cell k0 : _), k0, k1, k2, k3, k4, k5, k6, k7, w5, w6, w7⟩
    haveI : Inhabited Ac := ⟨⟨0, 0, 0, 0, 0, 0, 0, 0⟩⟩
    obtain ⟨q, hq⟩ := Go.Deep.choose_lt each
    refine ⟨some a, len, cap, q, rfl, by omega, fun i hi => ?_⟩
    have := hq i hi
    obtain ⟨bb, oo, ss⟩ := a
    obtain ⟨s, l, rest⟩ := this
    simp only at s
    subst s
    exact ⟨bb, oo, rfl, l, rest⟩
end Go.Proofs.Ytcieglidghnidaa
