/- What the condition on the table gives; how entries and places come in; that arguments stay as they were. -/
import Derived.Test.YtkiclbnbnjbcaabDoorP4
import Derived.Test.YtkiclbnbnjbcaabDoorRows
import Derived.LaidMore
import Derived.Lib.LaidTab
namespace Go.Proofs.YtkiclbnbnjbcaabDoor
open Go.ChangeShapes Go.WideShapes Go.ChangeAt Go.RowKit
set_option linter.unusedSimpArgs false
set_option linter.unusedVariables false
set_option maxRecDepth 8000

theorem own : ownKnob Tryd.prog.godebug = none := by kernel_rfl
theorem laidOut : laidOutB Tryd.prog = true := by kernel_rfl
theorem gFlags : Tryd.prog.globalNamed "demesne/pte.flagBits" = some 0 := by kernel_rfl
theorem tFlags : (Tryd.prog.globals[0]?).map (·.type) = some 134 := by kernel_rfl
abbrev laidL : List (String × DataW Unit) := [("demesne/pte.flagBits", Rows.laid_demesne_pte_flagBits)]
theorem door_met (os : Os) (args : Array Value) : laidMetH Tryd.prog laidL ((World.doorLaid Tryd.prog 400 os).forCall (fun _ _ => 0) ⟨#[], args, []⟩).memory :=
  laidMetH_of_parts3 (fuel := 8) (laidMet_of_run' 8 (by kernel_rfl) (by kernel_rfl)) (by kernel_rfl) (by kernel_rfl)
theorem of_laid {W : World} (h : laidMetH Tryd.prog laidL W) : Tab W := by
  rw [MakeChecks.laidMetH_plain _ _ _ (by kernel_rfl)] at h
  have hT : Lib.TabIs Tryd.prog W "demesne/pte.flagBits" .i64 [0, 1, 2, 5, 6, 7, 8, 63] :=
    Lib.tabIs_of_head (k := .i64) (zs := [0, 1, 2, 5, 6, 7, 8, 63]) gFlags tFlags (Tryd.underlying134) (Tryd.underlying3) (by kernel_rfl) (by kernel_rfl) h
  have c := fun i (hi : i < 8) => hT.cell gFlags i hi
  refine ⟨?_, c 0 (by omega), c 1 (by omega), c 2 (by omega), c 3 (by omega), c 4 (by omega), c 5 (by omega), c 6 (by omega), c 7 (by omega)⟩
  have h0 := c 0 (by omega)
  cases hh : W.heap[0]? with
  | none => simp [World.cell?, hh] at h0
  | some o => exact (Array.getElem?_eq_some_iff.1 hh).1

theorem args_stay {H : Type} {enc : TypeId × Value → H} {P : Program} {W W' : World} (hl : laidOutB P = true) (hb : Below W.heap.size W W') :
    ∀ {ts : List TypeId} {vs : List Value} {ds : List (DataW H)} {ps : List MemPlace}, (ts.all fun t => P.readableRec t && decide (t < P.types.size)) = true →
      DataW.TrodAll enc P W 0 (fun _ => true) true ts vs ds ps → (∀ x ∈ ps, x.block < W.heap.size) → DataW.TrodAll enc P W' 0 (fun b => decide (b < W.heap.size)) true ts vs ds ps
  | [], vs, ds, ps, _, h, _ => by
    obtain ⟨rfl, rfl, rfl⟩ := trodAll_nil h
    exact trodAll_mk0
  | t :: ts, vs, ds, ps, ha, h, hp => by
    obtain ⟨v, vs0, d, ds0, p, q, rfl, rfl, rfl, h0, r0⟩ := trodAll_cons h
    simp only [List.all_cons, Bool.and_eq_true, decide_eq_true_eq] at ha
    exact trodAll_cons_mk (Below.trod hl ha.1.1 ha.1.2 h0 hb (fun x hx => hp x (List.mem_append_left _ hx)))
      (args_stay hl hb (by simpa using ha.2) r0 (fun x hx => hp x (List.mem_append_right _ hx)))

theorem array9 {α : Type} {cs : Array α} (h : cs.size = 9) : ∃ c0 c1 c2 c3 c4 c5 c6 c7 c8, cs = #[c0, c1, c2, c3, c4, c5, c6, c7, c8] := by
  obtain ⟨l⟩ := cs
  match l, h with
  | [c0, c1, c2, c3, c4, c5, c6, c7, c8], _ => exact ⟨c0, c1, c2, c3, c4, c5, c6, c7, c8, rfl⟩
theorem cellsB : Tryd.prog.cellsOf 4 = 1 := by kernel_rfl
theorem cellsI : Tryd.prog.cellsOf 3 = 1 := by kernel_rfl
theorem cellsE : Tryd.prog.cellsOf 72 = 9 := by kernel_rfl
theorem cellsA : Tryd.prog.cellsOf 84 = 4 := by kernel_rfl
theorem cell_of {P : Program} {t n : Nat} {cs : List Value} {c v : Value} (hc : P.cellsOf t = 1) (h : (cs.drop n).take (P.cellsOf t) = [v]) (hn : cs[n]? = some c) : c = v := by
  rw [hc] at h
  have e : ((cs.drop n).take 1)[0]? = some c := by rw [List.getElem?_take, if_pos (by omega), List.getElem?_drop]; simpa using hn
  rw [h] at e
  simpa using e.symm
theorem open_entry {H : Type} {enc : TypeId × Value → H} {W : World} {r : Reach} {b0 base : Nat} {sp : Nat → Bool} {held : Bool} {v : Value} {x : DataW H} {ps : List MemPlace}
    (hv : Value.okWide Tryd.prog W r b0 72 v) (h : DataW.Trod enc Tryd.prog W base sp held 72 v x ps) :
    ∃ (p q u a d l g n : Bool) (f : Int), v = .agg #[.bool p, .bool q, .bool u, .bool a, .bool d, .bool l, .bool g, .bool n, .int .i64 f] ∧ (Lit.int .i64 f).wf = true := by
  obtain ⟨cs, rfl, hsz⟩ := okWide_struct Tryd.underlying72 hv
  obtain ⟨c0, c1, c2, c3, c4, c5, c6, c7, c8, rfl⟩ := array9 (hsz.trans cellsE)
  obtain ⟨fuel, hf⟩ := h
  obtain ⟨xs, n, _, _, hl, hlen, hf⟩ := DataW.trod_struct Tryd.underlying72 hf
  have hg : ∀ i, i < 9 → ∃ y, xs[i]? = some y := fun i hi => ⟨_, List.getElem?_eq_getElem (by rw [hlen]; exact hi)⟩
  obtain ⟨y0, k0⟩ := hg 0 (by omega)
  obtain ⟨y1, k1⟩ := hg 1 (by omega)
  obtain ⟨y2, k2⟩ := hg 2 (by omega)
  obtain ⟨y3, k3⟩ := hg 3 (by omega)
  obtain ⟨y4, k4⟩ := hg 4 (by omega)
  obtain ⟨y5, k5⟩ := hg 5 (by omega)
  obtain ⟨y6, k6⟩ := hg 6 (by omega)
  obtain ⟨y7, k7⟩ := hg 7 (by omega)
  obtain ⟨y8, k8⟩ := hg 8 (by omega)
  obtain ⟨p, e0, _⟩ := DataW.trod_bool Tryd.underlying4 ((hf 0 _ rfl).trans k0)
  obtain ⟨q, e1, _⟩ := DataW.trod_bool Tryd.underlying4 ((hf 1 _ rfl).trans k1)
  obtain ⟨u, e2, _⟩ := DataW.trod_bool Tryd.underlying4 ((hf 2 _ rfl).trans k2)
  obtain ⟨a, e3, _⟩ := DataW.trod_bool Tryd.underlying4 ((hf 3 _ rfl).trans k3)
  obtain ⟨d, e4, _⟩ := DataW.trod_bool Tryd.underlying4 ((hf 4 _ rfl).trans k4)
  obtain ⟨l, e5, _⟩ := DataW.trod_bool Tryd.underlying4 ((hf 5 _ rfl).trans k5)
  obtain ⟨g, e6, _⟩ := DataW.trod_bool Tryd.underlying4 ((hf 6 _ rfl).trans k6)
  obtain ⟨m, e7, _⟩ := DataW.trod_bool Tryd.underlying4 ((hf 7 _ rfl).trans k7)
  obtain ⟨f, e8, _, wf⟩ := DataW.trod_int Tryd.underlying3 ((hf 8 _ rfl).trans k8)
  obtain rfl := cell_of cellsB e0 (c := c0) rfl
  obtain rfl := cell_of cellsB e1 (c := c1) rfl
  obtain rfl := cell_of cellsB e2 (c := c2) rfl
  obtain rfl := cell_of cellsB e3 (c := c3) rfl
  obtain rfl := cell_of cellsB e4 (c := c4) rfl
  obtain rfl := cell_of cellsB e5 (c := c5) rfl
  obtain rfl := cell_of cellsB e6 (c := c6) rfl
  obtain rfl := cell_of cellsB e7 (c := c7) rfl
  obtain rfl := cell_of cellsI e8 (c := c8) rfl
  exact ⟨_, _, _, _, _, _, _, _, _, rfl, wf⟩
theorem open_at4 {H : Type} {enc : TypeId × Value → H} {W : World} {r : Reach} {b0 base : Nat} {sp : Nat → Bool} {held : Bool} {v : Value} {x : DataW H} {ps : List MemPlace}
    (hv : Value.okWide Tryd.prog W r b0 84 v) (h : DataW.Trod enc Tryd.prog W base sp held 84 v x ps) :
    ∃ (a b c d : Int), v = .agg #[.int .i64 a, .int .i64 b, .int .i64 c, .int .i64 d] ∧ (Lit.int .i64 a).wf = true ∧ (Lit.int .i64 b).wf = true ∧ (Lit.int .i64 c).wf = true ∧ (Lit.int .i64 d).wf = true := by
  have hs := Tryd.underlying84
  have hv' := hv
  simp only [Value.okWide, hs] at hv'
  obtain ⟨cs, rfl, hsz, _⟩ := hv'
  obtain ⟨c0, c1, c2, c3, rfl⟩ := Go.Joins.array4 (hsz.trans cellsA)
  obtain ⟨fuel, hf⟩ := h
  obtain ⟨xs, n, _, _, hl, hlen, hf⟩ := DataW.trod_array hs hf
  have hg : ∀ i, i < 4 → ∃ y, xs[i]? = some y := fun i hi => ⟨_, List.getElem?_eq_getElem (by rw [hlen]; exact hi)⟩
  obtain ⟨y0, k0⟩ := hg 0 (by omega)
  obtain ⟨y1, k1⟩ := hg 1 (by omega)
  obtain ⟨y2, k2⟩ := hg 2 (by omega)
  obtain ⟨y3, k3⟩ := hg 3 (by omega)
  obtain ⟨a, e0, _, wa⟩ := DataW.trod_int Tryd.underlying3 ((hf 0 (by omega)).trans k0)
  obtain ⟨b, e1, _, wb⟩ := DataW.trod_int Tryd.underlying3 ((hf 1 (by omega)).trans k1)
  obtain ⟨c, e2, _, wc⟩ := DataW.trod_int Tryd.underlying3 ((hf 2 (by omega)).trans k2)
  obtain ⟨d, e3, _, wd⟩ := DataW.trod_int Tryd.underlying3 ((hf 3 (by omega)).trans k3)
  obtain rfl := cell_of cellsI e0 (c := c0) (by rw [cellsI]; rfl)
  obtain rfl := cell_of cellsI e1 (c := c1) (by rw [cellsI]; rfl)
  obtain rfl := cell_of cellsI e2 (c := c2) (by rw [cellsI]; rfl)
  obtain rfl := cell_of cellsI e3 (c := c3) (by rw [cellsI]; rfl)
  exact ⟨_, _, _, _, rfl, wa, wb, wc, wd⟩
theorem cell_keep {B b i : Nat} {w w' : World} (h : Below B w w') (hb : b < B) : w'.cell? ⟨b, i, none⟩ = w.cell? ⟨b, i, none⟩ := by
  have e : w'.heap[b]? = w.heap[b]? := h.block b hb
  simp [World.cell?, e]
theorem cell_next {B b i : Nat} {w w' : World} {v : Value} (h : Below B w w') (hb : b < B) (hx : w.cell? ⟨b, i, none⟩ = some v) : w'.cell? ⟨b, i, none⟩ = some v := (cell_keep h hb).trans hx
theorem cell_old {b i : Nat} {w : World} (hb : b < w.heap.size) (o : Obj) : (w.alloc o).cell? ⟨b, i, none⟩ = w.cell? ⟨b, i, none⟩ := cell_keep (B := w.heap.size) (Go.Joins.below_alloc1 w o) hb
theorem below_then {w w1 w2 : World} (h : Below w.heap.size w w1) (k : Below w1.heap.size w1 w2) : Below w.heap.size w w2 := h.trans (Go.Joins.below_le k h.size)
theorem below_new {w w1 : World} (h : Below w.heap.size w w1) (o : Obj) : Below w.heap.size w (w1.alloc o) := h.alloc h.size o
theorem below_new2 {w w1 : World} (h : Below w.heap.size w w1) (o o2 : Obj) : Below w.heap.size w ((w1.alloc o).alloc o2) := below_new (below_new h o) o2
theorem wf_u64 {x : Int} (h : (Lit.int .u64 x).wf = true) : 0 ≤ x ∧ x < 18446744073709551616 := by simp [Lit.wf, IntKind.min, IntKind.max, IntKind.signed, IntKind.bits] at h; omega
theorem wf_i64 {x : Int} (h : (Lit.int .i64 x).wf = true) : -9223372036854775808 ≤ x ∧ x ≤ 9223372036854775807 := by simp [Lit.wf, IntKind.min, IntKind.max, IntKind.signed, IntKind.bits] at h; omega
theorem packV_bd (p q u a d l g n : Bool) (f : Int) (f0 : 0 ≤ f) (f1 : f < 1048576) : 0 ≤ packV p q u a d l g n f ∧ packV p q u a d l g n f < 18446744073709551616 := by
  have h0 := fl_bd p 1 (by omega)
  have h1 := fl_bd q 2 (by omega)
  have h2 := fl_bd u 4 (by omega)
  have h3 := fl_bd a 32 (by omega)
  have h4 := fl_bd d 64 (by omega)
  have h5 := fl_bd l 128 (by omega)
  have h6 := fl_bd g 256 (by omega)
  have h7 := fl_bd n 9223372036854775808 (by omega)
  unfold packV; omega
theorem pack_c (p q u a d l g n : Bool) (f : Int) : ∃ V E : Int, Hid (∀ w : World, Tab w → Calls Tryd.prog 47 #[.agg #[.bool p, .bool q, .bool u, .bool a, .bool d, .bool l, .bool g, .bool n, .int .i64 f]] w fun e w' => e = .returned (.tuple #[.int .u64 V, .int .i64 E]) ∧ Below w.heap.size w w') ∧
    ((0 ≤ f ∧ f < 1048576 ∧ E = 0 ∧ V = packV p q u a d l g n f ∧ 0 ≤ V ∧ V < 18446744073709551616) ∨ (¬ (0 ≤ f ∧ f < 1048576) ∧ E = 1 ∧ V = 0)) := by
  by_cases c : 0 ≤ f ∧ f < 1048576
  · exact ⟨_, _, fun w ht => pack_ok p q u a d l g n f c.1 c.2 w ht, Or.inl ⟨c.1, c.2, rfl, rfl, packV_bd p q u a d l g n f c.1 c.2⟩⟩
  · exact ⟨_, _, fun w ht => pack_bad p q u a d l g n f c w, Or.inr ⟨c, rfl, rfl⟩⟩
end Go.Proofs.YtkiclbnbnjbcaabDoor
