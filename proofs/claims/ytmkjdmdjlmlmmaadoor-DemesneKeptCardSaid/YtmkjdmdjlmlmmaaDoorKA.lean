/- The memory and beside it the translations that are kept. -/
import Derived.Test.YtmkjdmdjlmlmmaaDoorL5
import Derived.Test.YtmkjdmdjlmlmmaaDoorTC
import Derived.Laws.StructEq
namespace Go.Proofs.YtmkjdmdjlmlmmaaDoor
open Go.ChangeShapes Go.WideShapes Go.ChangeAt Go.RowKit Go.Maps
set_option linter.unusedSimpArgs false
set_option linter.unusedVariables false
set_option maxRecDepth 8000

theorem blk_lt {w : World} {b : Nat} {o : Obj} (h : w.heap[b]? = some o) : b < w.heap.size := blk_lt2 h
theorem below_drw {n : Nat} {w W : World} (h : Below n w W) : Below n w W.drew := ⟨h.os, h.tape, h.output, h.size, h.block⟩
/-- a block's cells -/
abbrev Blk (w : World) (b : Nat) (C : List Value) (t : TypeId) : Prop := w.heap[b]? = some (.cells C.toArray t (0, 0))
theorem Blk.cell {w : World} {b : Nat} {C : List Value} {t : TypeId} (h : Blk w b C t) (i : Nat) : w.cell? ⟨b, i, none⟩ = C[i]? := by rw [Go.Joins.cell_of_block h i]; simp
theorem Blk.free {w : World} {b : Nat} {C : List Value} {t : TypeId} (h : Blk w b C t) (i : Nat) : w.frozen? ⟨b, i, none⟩ = false := Go.Joins.unfrozen_of_block h i
theorem Blk.below {w w' : World} {b : Nat} {C : List Value} {t : TypeId} (h : Blk w b C t) (k : Below w.heap.size w w') : Blk w' b C t := (k.block b (blk_lt h)).trans h
theorem Blk.made (w : World) (C : List Value) (t : TypeId) : Blk (w.alloc (.cells C.toArray t)) w.heap.size C t := own1 w _
theorem Blk.set {w : World} {b : Nat} {C : List Value} {t : TypeId} (h : Blk w b C t) (i : Nat) (v : Value) : Blk (w.setCell ⟨b, i, none⟩ v) b (C.set i v) t := by
  unfold Blk
  rw [Go.Joins.block_setCell h]; simp
theorem Blk.there {w : World} {b : Nat} {C : List Value} {t : TypeId} (h : Blk w b C t) : w.there b 0 C.length := fun j hj => by
  rw [Nat.zero_add]
  exact ⟨by rw [h.cell j, List.getElem?_eq_getElem hj]; rfl, h.free j⟩
theorem Blk.range {w : World} {b : Nat} {C : List Value} {t : TypeId} (h : Blk w b C t) : w.rangeAt b 0 C := fun j v hv => by rw [Nat.zero_add, h.cell j]; exact hv
theorem Blk.kept {w w' : World} {b : Nat} {C : List Value} {t : TypeId} {K : Nat → Prop} (h : Blk w b C t) (k : Kept K w w') (hb : K b) : Blk w' b C t := (k.block b hb).trans h
theorem lay_ex (p : Option Addr) (n c : Nat) (A : Nat → Pt) (hn : n ≤ maxLen) (w : World) (h : IsPuts w p n A) :
    Calls Tryd.prog 7 #[.slice p n c] w fun e w' => ∃ (rb g mb xb : Nat) (K : Nat → Prop) (S : List Nat), e = .returned (.tuple #[.pointer (some ⟨rb, 0, none⟩), .agg #[.int .i64 8, .slice (some ⟨g, 0, none⟩) 1 1, .map (some mb)]]) ∧ Play w w' K S rb 8 [(7, 8)] g 1 mb xb (layM A (min n 40)) (layM A (min n 40)) 80 320 ∧ (∀ s, s ∈ S → w.heap.size ≤ s) ∧ w.heap.size ≤ g ∧ w.heap.size ≤ xb :=
  (lay_any p n c A hn w h).mono fun e w' ⟨rb, he, K, S, hp, hs⟩ => ⟨rb, _, _, _, K, S, he, hp, hs, by omega, by omega⟩
/-- a step that comes in -/
structure Sp where
  rt : Int
  ad : Int
  x : Bool
  u : Bool
  f : Bool
theorem acc_cells {H : Type} {enc : TypeId × Value → H} {W : World} {base : Nat} {sp : Nat → Bool} {held : Bool} {x : DataW H} {ps : List MemPlace} {fuel : Nat} {cs : List Value} (hf : DataW.trod enc Tryd.prog W base sp held fuel 48 cs = some (x, ps)) (hl : cs.length = 3) :
    ∃ (a0 : Bool) (a1 : Bool) (a2 : Bool), cs = [.bool a0, .bool a1, .bool a2] ∧ True := by
  obtain ⟨c0, c1, c2, hcs⟩ : ∃ c0 c1 c2, cs = [c0, c1, c2] := by
    revert hl
    match cs with
    | [c0, c1, c2] => intro _; exact ⟨c0, c1, c2, rfl⟩
    | [] => intro q; cases q
    | [_] => intro q; cases q
    | [_, _] => intro q; cases q
    | _ :: _ :: _ :: _ :: _ => intro q; simp at q
  subst hcs
  obtain ⟨zs, m, _, _, jl, jlen, jf⟩ := DataW.trod_struct Tryd.underlying48 hf
  have jg : ∀ i, i < 3 → ∃ y, zs[i]? = some y := fun i hi => ⟨_, List.getElem?_eq_getElem (by rw [jlen]; exact hi)⟩
  obtain ⟨⟨z0a, z0b⟩, m0⟩ := jg 0 (by omega)
  obtain ⟨b0, e0, _⟩ := DataW.trod_bool Tryd.underlying4 ((jf 0 _ rfl).trans m0)
  obtain rfl := cell_of cellsB e0 (c := c0) (by first | rfl | (rw [cellsB]; rfl))
  obtain ⟨⟨z1a, z1b⟩, m1⟩ := jg 1 (by omega)
  obtain ⟨b1, e1, _⟩ := DataW.trod_bool Tryd.underlying4 ((jf 1 _ rfl).trans m1)
  obtain rfl := cell_of cellsB e1 (c := c1) (by first | rfl | (rw [cellsB]; rfl))
  obtain ⟨⟨z2a, z2b⟩, m2⟩ := jg 2 (by omega)
  obtain ⟨b2, e2, _⟩ := DataW.trod_bool Tryd.underlying4 ((jf 2 _ rfl).trans m2)
  obtain rfl := cell_of cellsB e2 (c := c2) (by first | rfl | (rw [cellsB]; rfl))
  exact ⟨_, _, _, rfl, trivial⟩
theorem step_cells {H : Type} {enc : TypeId × Value → H} {W : World} {base : Nat} {sp : Nat → Bool} {held : Bool} {x : DataW H} {ps : List MemPlace} {fuel : Nat} {cs : List Value} (hf : DataW.trod enc Tryd.prog W base sp held fuel 50 cs = some (x, ps)) (hl : cs.length = 5) :
    ∃ (a0 : Int) (a1 : Int) (a2 : Bool) (a3 : Bool) (a4 : Bool), cs = [.int .i64 a0, .int .u64 a1, .bool a2, .bool a3, .bool a4] ∧ (Lit.int .i64 a0).wf = true ∧ (Lit.int .u64 a1).wf = true ∧ True := by
  obtain ⟨c0, c1, c2, c3, c4, hcs⟩ : ∃ c0 c1 c2 c3 c4, cs = [c0, c1, c2, c3, c4] := by
    revert hl
    match cs with
    | [c0, c1, c2, c3, c4] => intro _; exact ⟨c0, c1, c2, c3, c4, rfl⟩
    | [] => intro q; cases q
    | [_] => intro q; cases q
    | [_, _] => intro q; cases q
    | [_, _, _] => intro q; cases q
    | [_, _, _, _] => intro q; cases q
    | _ :: _ :: _ :: _ :: _ :: _ :: _ => intro q; simp at q
  subst hcs
  obtain ⟨zs, m, _, _, jl, jlen, jf⟩ := DataW.trod_struct Tryd.underlying50 hf
  have jg : ∀ i, i < 3 → ∃ y, zs[i]? = some y := fun i hi => ⟨_, List.getElem?_eq_getElem (by rw [jlen]; exact hi)⟩
  obtain ⟨⟨z0a, z0b⟩, m0⟩ := jg 0 (by omega)
  obtain ⟨b0, e0, _, w0⟩ := DataW.trod_int Tryd.underlying3 ((jf 0 _ rfl).trans m0)
  obtain rfl := cell_of cellsI e0 (c := c0) (by first | rfl | (rw [cellsI]; rfl))
  obtain ⟨⟨z1a, z1b⟩, m1⟩ := jg 1 (by omega)
  obtain ⟨b1, e1, _, w1⟩ := DataW.trod_int Tryd.underlying24 ((jf 1 _ rfl).trans m1)
  obtain rfl := cell_of cellsU e1 (c := c1) (by first | rfl | (rw [cellsU]; rfl))
  obtain ⟨⟨z2a, z2b⟩, m2⟩ := jg 2 (by omega)
  obtain ⟨b2, b3, b4, q2, _⟩ := acc_cells (show DataW.trod enc Tryd.prog W base sp held _ 48 [c2, c3, c4] = some (z2a, z2b) from (jf 2 _ rfl).trans m2) rfl
  simp only [List.cons.injEq, and_true] at q2
  obtain ⟨rfl, rfl, rfl⟩ := q2
  exact ⟨_, _, _, _, _, rfl, w0, w1, trivial⟩
theorem open_steps_cells : Tryd.prog.cellsOf 50 = 5 := by kernel_rfl
def IsSteps (w : World) (p : Option Addr) (n : Nat) (A : Nat → Sp) : Prop := ∀ i, i < n → ∃ b o, p = some ⟨b, o, none⟩ ∧ b < w.heap.size ∧ w.cell? ⟨b, o + i * 5 + 0, none⟩ = some (.int .i64 (A i).rt) ∧ w.cell? ⟨b, o + i * 5 + 1, none⟩ = some (.int .u64 (A i).ad) ∧ w.cell? ⟨b, o + i * 5 + 2, none⟩ = some (.bool (A i).x) ∧ w.cell? ⟨b, o + i * 5 + 3, none⟩ = some (.bool (A i).u) ∧ w.cell? ⟨b, o + i * 5 + 4, none⟩ = some (.bool (A i).f) ∧ (Lit.int .u64 (A i).ad).wf = true
theorem open_steps {H : Type} {enc : TypeId × Value → H} {W : World} {base : Nat} {sp : Nat → Bool} {held : Bool} {v : Value} {x : DataW H} {ps : List MemPlace} {r : Reach} {b0 : Nat}
    (hv : Value.okWide Tryd.prog W r b0 23 v) (h : DataW.Trod enc Tryd.prog W base sp held 23 v x ps) :
    ∃ (p : Option Addr) (n c : Nat) (A : Nat → Sp), v = .slice p n c ∧ n ≤ maxLen ∧ IsSteps W p n A := by
  obtain ⟨a', l', c', rfl⟩ := okWide_slice Tryd.underlying23 hv
  obtain ⟨fuel, hf⟩ := h
  rcases Go.Deep.open_slice Tryd.underlying23 hf with ⟨e, _⟩ | ⟨a, len, cap, m, k, D, Pl, e, hb, hl, hm, hmm, hx, hel⟩
  · have e' : Value.slice a' l' c' = .slice none 0 0 := (List.cons.inj (show [Value.slice a' l' c'] = [.slice none 0 0] from e)).1
    exact ⟨none, 0, 0, fun _ => ⟨0, 0, false, false, false⟩, e', by omega, fun i hi => absurd hi (Nat.not_lt_zero _)⟩
  · have e' : Value.slice a' l' c' = .slice (some a) len cap := (List.cons.inj (show [Value.slice a' l' c'] = [.slice (some a) len cap] from e)).1
    have hlm : len ≤ m := by rw [hmm]; split <;> omega
    rw [e']
    have each : ∀ i, i < len → ∃ q : Sp, a.spot = none ∧ a.block < W.heap.size ∧ W.cell? ⟨a.block, a.off + i * 5 + 0, none⟩ = some (.int .i64 q.rt) ∧ W.cell? ⟨a.block, a.off + i * 5 + 1, none⟩ = some (.int .u64 q.ad) ∧ W.cell? ⟨a.block, a.off + i * 5 + 2, none⟩ = some (.bool q.x) ∧ W.cell? ⟨a.block, a.off + i * 5 + 3, none⟩ = some (.bool q.u) ∧ W.cell? ⟨a.block, a.off + i * 5 + 4, none⟩ = some (.bool q.f) ∧ (Lit.int .u64 q.ad).wf = true := fun i hi => by
      obtain ⟨cs', h1, h2⟩ := hel i (by omega)
      obtain ⟨c2', h3, _⟩ := hel 0 (by omega)
      rw [open_steps_cells] at h1 h3
      obtain ⟨_, hlen, hcell⟩ := World.cells?_some h1
      obtain ⟨_, hlen3, hcell3⟩ := World.cells?_some h3
      have hspot : a.spot = none := by
        have := hcell3 0 (by omega)
        simpa [Addr.add] using World.cell?_spot (this.trans (List.getElem?_eq_getElem (by omega)))
      obtain ⟨a0, a1, a2, a3, a4, ecs, w0, w1, _⟩ := step_cells h2 (by omega)
      have ad : ∀ j, (a.add (i * 5)).add j = ⟨a.block, a.off + i * 5 + j, none⟩ := fun j => by
        rw [Go.Deep.add_add]
        unfold Addr.add
        by_cases c : i * 5 + j = 0
        · rw [if_pos c]
          have : i * 5 = 0 ∧ j = 0 := by omega
          obtain ⟨bb, oo, ss⟩ := a
          simp only at hspot
          subst hspot
          simp [this.1, this.2]
        · rw [if_neg c]; simp; try omega
      have k0 := hcell 0 (by omega)
      rw [ad, ecs] at k0
      have k1 := hcell 1 (by omega)
      rw [ad, ecs] at k1
      have k2 := hcell 2 (by omega)
      rw [ad, ecs] at k2
      have k3 := hcell 3 (by omega)
      rw [ad, ecs] at k3
      have k4 := hcell 4 (by omega)
      rw [ad, ecs] at k4
      exact ⟨⟨a0, a1, a2, a3, a4⟩, hspot, (lt_of_cell k0 : _), k0, k1, k2, k3, k4, w1⟩
    haveI : Inhabited Sp := ⟨⟨0, 0, false, false, false⟩⟩
    obtain ⟨q, hq⟩ := Go.Deep.choose_lt each
    refine ⟨some a, len, cap, q, rfl, by omega, fun i hi => ?_⟩
    have := hq i hi
    obtain ⟨bb, oo, ss⟩ := a
    obtain ⟨s, l, rest⟩ := this
    simp only at s
    subst s
    exact ⟨bb, oo, rfl, l, rest⟩
theorem IsSteps.below {w w' : World} {p : Option Addr} {n : Nat} {A : Nat → Sp} (h : IsSteps w p n A) (hb : Below w.heap.size w w') : IsSteps w' p n A := fun i hi => by
  obtain ⟨b, o, e, l, c0, c1, c2, c3, c4, wf⟩ := h i hi
  exact ⟨b, o, e, Nat.lt_of_lt_of_le l hb.size, (hb.cell (p := ⟨b, _, none⟩) l).trans c0, (hb.cell (p := ⟨b, _, none⟩) l).trans c1, (hb.cell (p := ⟨b, _, none⟩) l).trans c2, (hb.cell (p := ⟨b, _, none⟩) l).trans c3, (hb.cell (p := ⟨b, _, none⟩) l).trans c4, wf⟩
abbrev Pt.val (s : Pt) : Value := .agg #[.int .i64 s.fr, .int .i64 s.at', .int .u64 s.x]
theorem open_put {H : Type} {enc : TypeId × Value → H} {W : World} {base : Nat} {sp : Nat → Bool} {held : Bool} {r : Reach} {b0 : Nat} {v : Value} {x : DataW H} {ps : List MemPlace}
    (hv : Value.okWide Tryd.prog W r b0 26 v) (h : DataW.Trod enc Tryd.prog W base sp held 26 v x ps) : ∃ s : Pt, v = s.val ∧ (Lit.int .i64 (s.fr)).wf = true ∧ (Lit.int .i64 (s.at')).wf = true ∧ (Lit.int .u64 (s.x)).wf = true ∧ True := by
  obtain ⟨cs, rfl, hsz⟩ := okWide_struct Tryd.underlying26 hv
  obtain ⟨fuel, hf⟩ := h
  have hf2 : DataW.trod enc Tryd.prog W base sp held fuel 26 cs.toList = some (x, ps) := hf
  obtain ⟨a0, a1, a2, e, w0, w1, w2, _⟩ := put_cells hf2 (by rw [Array.length_toList]; exact hsz.trans open_puts_cells)
  refine ⟨⟨a0, a1, a2⟩, ?_, w0, w1, w2, trivial⟩
  show Value.agg cs = Value.agg _
  rw [← Array.toArray_toList (xs := cs), e]
theorem IsPuts.below {w w' : World} {p : Option Addr} {n : Nat} {A : Nat → Pt} (h : IsPuts w p n A) (hb : Below w.heap.size w w') : IsPuts w' p n A := fun i hi => by
  obtain ⟨b, o, e, l, c0, c1, c2, wf⟩ := h i hi
  exact ⟨b, o, e, Nat.lt_of_lt_of_le l hb.size, (hb.cell (p := ⟨b, _, none⟩) l).trans c0, (hb.cell (p := ⟨b, _, none⟩) l).trans c1, (hb.cell (p := ⟨b, _, none⟩) l).trans c2, wf⟩
theorem Play.box1 {w W : World} {K : Nat → Prop} {S : List Nat} {rb : Nat} {F : Int} {hs : List (Int × Int)} {g cap mbx xb : Nat} {M M2 : Int → Int} {n m : Nat} (h : Play w W K S rb F hs g cap mbx xb M M2 n m) (o : Obj) : ∃ K' : Nat → Prop, (∀ j, K j → K' j) ∧ K' W.heap.size ∧ Play w (W.alloc o) K' S rb F hs g cap mbx xb M M2 n m :=
  ⟨fun j => K j ∨ j = W.heap.size, fun j hj => Or.inl hj, Or.inr rfl, h.add o⟩
theorem Play.box2 {w W : World} {K : Nat → Prop} {S : List Nat} {rb : Nat} {F : Int} {hs : List (Int × Int)} {g cap mbx xb : Nat} {M M2 : Int → Int} {n m : Nat} (h : Play w W K S rb F hs g cap mbx xb M M2 n m) (o1 o2 : Obj) : ∃ K' : Nat → Prop, (∀ j, K j → K' j) ∧ K' W.heap.size ∧ K' (W.heap.size + 1) ∧ Play w ((W.alloc o1).alloc o2) K' S rb F hs g cap mbx xb M M2 n m :=
  ⟨fun j => (K j ∨ j = W.heap.size) ∨ j = (W.alloc o1).heap.size, fun j hj => Or.inl (Or.inl hj), Or.inl (Or.inr rfl), Or.inr (by rw [World.size_alloc]), (h.add o1).add o2⟩
theorem made_2 (w : World) (C D : List Value) (t s : TypeId) : Blk ((w.alloc (.cells C.toArray t)).alloc (.cells D.toArray s)) w.heap.size C t ∧ Blk ((w.alloc (.cells C.toArray t)).alloc (.cells D.toArray s)) (w.heap.size + 1) D s := by
  have h := Blk.made (w.alloc (.cells C.toArray t)) D s
  rw [World.size_alloc] at h
  exact ⟨(Blk.made w C t).below (Go.Joins.below_alloc1 _ _), h⟩
theorem eqBw (d : Nat) (a b : Bool) (W : World) : (Op.equalIn (d + 1) 4 (.bool a) (.bool b)).run Tryd.prog W = .ok (a == b) W := run_equalIn_bool W d _ a b Tryd.underlying4
theorem eqPm (d : Nat) (a b c a' b' c' : Bool) (W : World) : (Op.equalIn (d + 2) 28 (.agg #[.bool a, .bool b, .bool c]) (.agg #[.bool a', .bool b', .bool c'])).run Tryd.prog W = .ok (a == a' && (b == b' && c == c')) W := by
  rw [run_equalIn_struct W (d + 1) 28 _ _ (by kernel_rfl) (by kernel_rfl)]
  have p0 : ∀ (x y z : Value) (W : World), (part 4 #[x, y, z] 0).run Tryd.prog W = .ok x W := fun x y z W => by kernel_rfl
  have p1 : ∀ (x y z : Value) (W : World), (part 4 #[x, y, z] 1).run Tryd.prog W = .ok y W := fun x y z W => by kernel_rfl
  have p2 : ∀ (x y z : Value) (W : World), (part 4 #[x, y, z] 2).run Tryd.prog W = .ok z W := fun x y z W => by kernel_rfl
  simp only [Program.fieldsOf, Tryd.underlying28]
  simp [Op.eqFields, p0, p1, p2, eqBw]
  cases a <;> cases a' <;> cases b <;> cases b' <;> cases c <;> cases c' <;> simp
theorem nePerm (a b c a' b' c' : Bool) (W : World) : (binOp .neq 28 (.agg #[.bool a, .bool b, .bool c]) (.agg #[.bool a', .bool b', .bool c'])).run Tryd.prog W = .ok (.bool (!(a == a' && (b == b' && c == c')))) W := by
  have := eqPm 9998 a b c a' b' c' W
  simp only [binOp, Op.equal, Sem.run_bind]
  rw [show Op.maxDepth = 9998 + 2 from rfl, this]; rfl
theorem Play.base {w W : World} {K : Nat → Prop} {S : List Nat} {rb g mb xb n m : Nat} {M M2 : Int → Int} {v : World} (h : Play w W K S rb 8 [(7, 8)] g 1 mb xb M M2 n m) (hb : Below v.heap.size v w) : Play v W K S rb 8 [(7, 8)] g 1 mb xb M M2 n m :=
  { h with kw := fun j hj => h.kw j (Nat.lt_of_lt_of_le hj hb.size), bel := below_next hb h.bel, nw := Nat.le_trans hb.size h.nw }
theorem Play.other {w W : World} {K : Nat → Prop} {S : List Nat} {rb g mb xb n m : Nat} {M M2 : Int → Int} {W' : World} {b : Nat} (h : Play w W K S rb 8 [(7, 8)] g 1 mb xb M M2 n m) (hg : W.grownBy W' (some b)) (kb : K b) (sb : b ∉ S) (n1 : b ≠ mb) (n2 : b ≠ xb) (n3 : b ≠ g) (lb : w.heap.size ≤ b) : Play w W' K S rb 8 [(7, 8)] g 1 mb xb M M2 n m where
  ram := h.ram.poke hg kb sb
  mem := h.mem.kept hg (fun e => n1 (Option.some.inj e).symm)
  km := h.km
  kx := h.kx
  kg := h.kg
  kw := h.kw
  ns := h.ns
  box := (hg.block xb (blk_lt2 h.box) (fun e => n2 (Option.some.inj e).symm)).trans h.box
  ho := h.ho.kept (hg.block g h.lg (fun e => n3 (Option.some.inj e).symm))
  lg := Nat.lt_of_lt_of_le h.lg hg.size
  bel := h.bel.trans ⟨hg.os, hg.tape, hg.output, hg.size, fun k hk => hg.block k (Nat.lt_of_lt_of_le hk h.bel.size) (fun e => by have := Option.some.inj e; omega)⟩
  nx := h.nx
  ng := h.ng
  nw := h.nw
theorem tlb_block {w w' : World} {b : Nat} {T : Nat → Tl.Ln} (h : Tl.IsTlb w b T) (hb : w'.heap[b]? = w.heap[b]?) (hs : w.heap.size ≤ w'.heap.size) : Tl.IsTlb w' b T :=
  ⟨fun i hi j v hv => (World.cell?_of_block (w := w) (a := ⟨b, i * 9 + j, none⟩) hb).trans (h.1 i hi j v hv), there_kept h.2.1 hb, Nat.lt_of_lt_of_le h.2.2 hs⟩
/-- what is found behind a fill -/
theorem find_fill (T : Nat → Tl.Ln) (y : Nat) (hy : y < 2) (l : Tl.Ln) (hv : l.v = true) (hp : 0 ≤ l.p) : Tl.findT (Tl.fillT T (y : Int) l) l.t l.p = (l, true) := by
  have fl : l.fits l.t l.p = true := by unfold Tl.Ln.fits; simp [hv]
  unfold Tl.findT
  rw [if_neg (by omega)]
  have yt : ((y : Int)).toNat = y := by omega
  rcases (show y = 0 ∨ y = 1 by omega) with rfl | rfl
  · have e0 : Tl.fillT T ((0 : Nat) : Int) l (2 * (l.p % 8).toNat) = l := by unfold Tl.fillT; rw [yt, if_pos (by omega)]
    rw [e0, fl]; rfl
  · have e1 : Tl.fillT T ((1 : Nat) : Int) l (2 * (l.p % 8).toNat + 1) = l := by unfold Tl.fillT; rw [yt, if_pos rfl]
    have e0 : (Tl.fillT T ((1 : Nat) : Int) l (2 * (l.p % 8).toNat)).fits l.t l.p = false := by
      unfold Tl.fillT; rw [yt, if_neg (by omega)]
      unfold Tl.dropT; rw [if_pos (by omega)]
      by_cases c : l.beats (T (2 * (l.p % 8).toNat)) = true
      · rw [if_pos c]; rfl
      · rw [if_neg c]
        have c' : l.beats (T (2 * (l.p % 8).toNat)) = false := by simpa using c
        unfold Tl.Ln.beats at c'
        simp only [Bool.or_eq_false_iff] at c'
        exact c'.1
    rw [e0, e1, fl]; rfl
/-- all that is kept is of tag 1, and nothing global -/
def TagI (T : Nat → Tl.Ln) : Prop := ∀ i, i < 16 → (T i).v = true → (T i).t = 1 ∧ (T i).g = false
def NoneT (T : Nat → Tl.Ln) : Prop := ∀ i, i < 16 → (T i).v = false
theorem NoneT.tag {T : Nat → Tl.Ln} (h : NoneT T) : TagI T := fun i hi hv => by rw [h i hi] at hv; cases hv
theorem all_none (T : Nat → Tl.Ln) : NoneT (Tl.dropT T (fun l => !false || !l.g) 16) := fun i hi => by
  unfold Tl.dropT; rw [if_pos hi]; rfl
theorem TagI.fill {T : Nat → Tl.Ln} (h : TagI T) (y : Int) (l : Tl.Ln) (ht : l.t = 1) (hg : l.g = false) : TagI (Tl.fillT T y l) := fun i hi hv => by
  unfold Tl.fillT at hv ⊢
  by_cases c : i = 2 * (l.p % 8).toNat + y.toNat
  · rw [if_pos c]; exact ⟨ht, hg⟩
  · rw [if_neg c] at hv ⊢
    unfold Tl.dropT at hv ⊢
    rw [if_pos hi] at hv ⊢
    by_cases d : l.beats (T i) = true
    · rw [if_pos d] at hv; cases hv
    · rw [if_neg d] at hv ⊢; exact h i hi hv
theorem TagI.gone {T : Nat → Tl.Ln} (h : TagI T) : NoneT (Tl.dropT T (fun l => l.t == 1 && !l.g) 16) := fun i hi => by
  unfold Tl.dropT; rw [if_pos hi]
  cases hv : (T i).v
  · split
    · rfl
    · exact hv
  · obtain ⟨a, b⟩ := h i hi hv
    rw [if_pos (by simp [a, b])]; rfl
theorem NoneT.find {T : Nat → Tl.Ln} (h : NoneT T) (tag page : Int) : Tl.findT T tag page = (Tl.Ln.zero, false) := by
  have nf : ∀ i, i < 16 → (T i).fits tag page = false := fun i hi => by unfold Tl.Ln.fits; rw [h i hi]; rfl
  unfold Tl.findT
  by_cases c : page < 0
  · rw [if_pos c]
  · rw [if_neg c, nf _ (by omega), nf _ (by omega)]; rfl
theorem NoneT.lines {T : Nat → Tl.Ln} (h : NoneT T) : ∀ m, m ≤ 16 → Tl.linesT T m = []
  | 0, _ => rfl
  | m + 1, hm => by rw [Tl.lines_no T m (h m (by omega)), NoneT.lines h m (by omega)]
theorem end3_fr (M : Int → Int) (addr cd p3 : Int) (h : 0 ≤ p3) (x u f : Bool) (A0 X0 A1 X1 A2 X2 : Int) : 0 ≤ (end3 M addr cd p3 x u f A0 X0 A1 X1 A2 X2).fr := by
  unfold end3
  split
  · show 0 ≤ X2 / 4096 % 1048576 + p3; omega
  · exact Int.le_refl 0
theorem end4_fr (M : Int → Int) (addr cd : Int) (x u f : Bool) (A0 X0 A1 X1 A2 X2 A3 X3 : Int) : 0 ≤ (end4 M addr cd x u f A0 X0 A1 X1 A2 X2 A3 X3).fr := by
  unfold end4
  split
  · show 0 ≤ X3 / 4096 % 1048576; omega
  · exact Int.le_refl 0
theorem no_fr (M : Int → Int) (a c e : Int) : 0 ≤ (WR.no M a c e).fr := Int.le_refl 0
theorem walk3_fr (has : Int → Bool) (M : Int → Int) (addr cd p3 : Int) (h : 0 ≤ p3) (x u f : Bool) (A0 X0 A1 X1 A2 X2 : Int) : 0 ≤ (walk3 has M addr cd p3 x u f A0 X0 A1 X1 A2 X2).fr := by
  unfold walk3
  split
  · exact end3_fr _ _ _ _ h _ _ _ _ _ _ _ _ _
  · split
    · exact no_fr _ _ _ _
    · exact end4_fr _ _ _ _ _ _ _ _ _ _ _ _ _ _
theorem walk2_fr (has : Int → Bool) (M : Int → Int) (addr cd p2 p3 : Int) (h : 0 ≤ p3) (x u f : Bool) (A0 X0 A1 X1 : Int) : 0 ≤ (walk2 has M addr cd p2 p3 x u f A0 X0 A1 X1).fr := by
  unfold walk2
  split
  · exact no_fr _ _ _ _
  · exact walk3_fr _ _ _ _ _ h _ _ _ _ _ _ _ _ _
theorem walk1_fr (has : Int → Bool) (M : Int → Int) (addr cd p1 p2 p3 : Int) (h : 0 ≤ p3) (x u f : Bool) (A0 X0 : Int) : 0 ≤ (walk1 has M addr cd p1 p2 p3 x u f A0 X0).fr := by
  unfold walk1
  split
  · exact no_fr _ _ _ _
  · exact walk2_fr _ _ _ _ _ _ h _ _ _ _ _ _ _
theorem walk_fr (M : Int → Int) (root addr : Int) (x u f : Bool) : 0 ≤ (walkW Has8 M root addr x u f).fr := by
  have p : 0 ≤ addr / 4096 % 512 := by omega
  unfold walkW
  split
  · exact no_fr _ _ _ _
  · split
    · exact no_fr _ _ _ _
    · unfold walk0
      split
      · exact no_fr _ _ _ _
      · exact walk1_fr _ _ _ _ _ _ _ p _ _ _ _ _
/-- the memory, the translations, and the change that comes in -/
def KP (w W : World) (S : List Nat) (rb g mb xb tB cB k : Nat) (M2 : Int → Int) (CV : List Value) (T : Nat → Tl.Ln) : Prop :=
  ∃ (K : Nat → Prop) (M : Int → Int) (n : Nat), Play w W K S rb 8 [(7, 8)] g 1 mb xb M M2 n 320 ∧ n ≤ 80 + 8 * k ∧ (K tB ∧ K cB) ∧ Tl.IsTlb W tB T ∧ Blk W cB CV 26
theorem KP.below {w W W' : World} {S : List Nat} {rb g mb xb tB cB k : Nat} {M2 : Int → Int} {CV : List Value} {T : Nat → Tl.Ln} (h : KP w W S rb g mb xb tB cB k M2 CV T) (hb : Below W.heap.size W W') : KP w W' S rb g mb xb tB cB k M2 CV T := by
  obtain ⟨K, M, n, hP, hn, hk, hT, hC⟩ := h
  exact ⟨K, M, n, hP.grow (below_g0 hb), hn, hk, hT.below hb, hC.below hb⟩
theorem KP.bel {w W : World} {S : List Nat} {rb g mb xb tB cB k : Nat} {M2 : Int → Int} {CV : List Value} {T : Nat → Tl.Ln} (h : KP w W S rb g mb xb tB cB k M2 CV T) : Below w.heap.size w W := by
  obtain ⟨K, M, n, hP, _⟩ := h; exact hP.bel
theorem KP.tlb {w W : World} {S : List Nat} {rb g mb xb tB cB k : Nat} {M2 : Int → Int} {CV : List Value} {T : Nat → Tl.Ln} (h : KP w W S rb g mb xb tB cB k M2 CV T) : Tl.IsTlb W tB T := by
  obtain ⟨K, M, n, hP, hn, hk, hT, hC⟩ := h; exact hT
theorem KP.next {w W W' : World} {S : List Nat} {rb g mb xb tB cB k : Nat} {M2 : Int → Int} {CV : List Value} {T T' : Nat → Tl.Ln} (h : KP w W S rb g mb xb tB cB k M2 CV T) (hT : Tl.IsTlb W' tB T') (hg : W.grownBy W' (some tB)) (sb : tB ∉ S) (n1 : tB ≠ mb) (n2 : tB ≠ xb) (n3 : tB ≠ g) (lb : w.heap.size ≤ tB) (nc : cB ≠ tB) : KP w W' S rb g mb xb tB cB k M2 CV T' := by
  obtain ⟨K, M, n, hP, hn, hk, _, hC⟩ := h
  exact ⟨K, M, n, hP.other hg hk.1 sb n1 n2 n3 lb, hn, hk, hT, (hg.block cB (blk_lt hC) (fun e => nc (Option.some.inj e))).trans hC⟩
theorem KP.walk {w W : World} {S : List Nat} {rb g mb xb tB cB k : Nat} {M2 : Int → Int} {CV : List Value} {T : Nat → Tl.Ln} (h : KP w W S rb g mb xb tB cB k M2 CV T) (ht : Tab w) (hm : 80 + 8 * k + 100 < maxLen) (SV : List Value) (ts : TypeId) (root addr : Int) (a0 : 0 ≤ addr) (a1 : addr < 18446744073709551616) (x u f : Bool) :
    ∃ (er fa fc fr : Int) (pw pu px gl la di : Bool), (er = 0 → 0 ≤ fr) ∧ Calls Tryd.prog 8 #[.pointer (some ⟨rb, 0, none⟩), .int .i64 root, .int .u64 addr, .agg #[.bool x, .bool u, .bool f]] (W.alloc (.cells SV.toArray ts)) fun e w' =>
      e = .returned (.tuple #[.agg #[.int .i64 fr, .bool pw, .bool pu, .bool px, .bool gl, .bool la, .bool di], .agg #[.int .u64 fa, .int .i64 fc], .int .i64 er]) ∧ KP w w' S rb g mb xb tB cB (k + 1) M2 CV T ∧ Blk w' W.heap.size SV ts := by
  obtain ⟨K, M, n, hP, hn, hk, hT, hC⟩ := h
  have hP2 := hP.add (.cells SV.toArray ts)
  obtain ⟨r, hr⟩ : ∃ r, r = walkW Has8 M root addr x u f := ⟨_, rfl⟩
  have C := walk_play hP2 ht (by omega) root addr a0 a1 x u f
  have fr0 : r.er = 0 → 0 ≤ r.fr := fun _ => by rw [hr]; exact walk_fr M root addr x u f
  rw [← hr] at C
  clear hr
  obtain ⟨er, fa, fc, fr, pw, pu, px, gl, la, di, M1⟩ := r
  refine ⟨er, fa, fc, fr, pw, pu, px, gl, la, di, fr0, C.mono ?_⟩
  rintro e w' ⟨he, h1, h2⟩
  have hT2 : Tl.IsTlb (W.alloc (.cells SV.toArray ts)) tB T := hT.below (Go.Joins.below_alloc1 _ _)
  have hC2 : Blk (W.alloc (.cells SV.toArray ts)) cB CV 26 := hC.below (Go.Joins.below_alloc1 _ _)
  exact ⟨he, ⟨_, M1, n + 8, h1, by omega, ⟨Or.inl hk.1, Or.inl hk.2⟩, tlb_block hT2 (h2.block tB (Or.inl hk.1)) h2.size, hC2.kept h2 (Or.inl hk.2)⟩, (Blk.made W SV ts).kept h2 (Or.inr rfl)⟩
theorem KP.store {w W : World} {S : List Nat} {rb g mb xb tB cB k : Nat} {M2 : Int → Int} {CV : List Value} {T : Nat → Tl.Ln} (h : KP w W S rb g mb xb tB cB k M2 CV T) (hm : 80 + 8 * k + 100 < maxLen) (f a x : Int) (hf : 0 ≤ f ∧ f ≤ 6) (ha : 0 ≤ a ∧ a ≤ 511) (hx : 0 ≤ x ∧ x < 18446744073709551616) :
    Calls Tryd.prog 10 #[.pointer (some ⟨rb, 0, none⟩), .int .u64 (f * 4096 + 8 * a), .int .i64 8, .int .u64 x] W fun e w' => e = .returned (.int .i64 0) ∧ KP w w' S rb g mb xb tB cB (k + 1) M2 CV T := by
  obtain ⟨K, M, n, hP, hn, hk, hT, hC⟩ := h
  have CK := chk_lay (f := f) (a := a) (by omega) (by omega)
  rw [if_neg (by omega)] at CK
  refine (store_K hP.ram.ram (by omega) _ 8 x (by omega) (by omega) CK hx.1 hx.2).mono ?_
  rintro e w' ⟨he, hr, h2⟩
  exact ⟨he, ⟨K, _, _, hP.next hr h2, by omega, hk, tlb_block hT (h2.block tB hk.1) h2.size, hC.kept h2 hk.2⟩⟩
end Go.Proofs.YtmkjdmdjlmlmmaaDoor
