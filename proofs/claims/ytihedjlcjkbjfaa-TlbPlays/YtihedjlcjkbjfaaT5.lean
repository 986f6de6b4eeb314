/- The translations' store: Find. -/
import Derived.Test.YtihedjlcjkbjfaaT4
import Derived.MapKept
import Derived.Laws.Tables
namespace Go.Proofs.Ytihedjlcjkbjfaa
open Go.ChangeShapes Go.WideShapes Go.ChangeAt Go.RowKit Go.Maps
set_option linter.unusedSimpArgs false
set_option linter.unusedVariables false
set_option maxRecDepth 8000

theorem load_pat {P : Program} {ops : Array Oper} {rest : List Oper} {ty t : TypeId} {x : Operand} {q : Tmp} {pos : String} {af : Array Edge} {a : Act} {w : World} {Q : Exit → Act → World → Prop} (b o : Nat) (cs : List Value) (d : TypeDesc) (hx : a.eval x = .pointer (some ⟨b, o, none⟩)) (hc : w.rangeAt b o cs)
    (hu : P.underlying ty = some d) (hd : d.isRow = true) (hi : (P.info? ty).map (·.size) = some cs.length)
    (h : wpList P ops Q rest (a.put (some q) (.agg cs.toArray)) w) : wpList P ops Q ({ dst := some q, op := .load ty x, type := t, pos := pos, after := af, guard := none } :: rest) a w :=
  wpList_load_mid rfl ty x rfl b o hx cs d hc hu hd hi h
theorem load_pat2 {P : Program} {ops : Array Oper} {rest : List Oper} {ty t : TypeId} {x : Operand} {q : Tmp} {pos : String} {af : Array Edge} {a : Act} {w : World} {Q : Exit → Act → World → Prop} (b o : Nat) (cs : List Value) {d : TypeDesc} (hu : P.underlying ty = some d) (hd : d.isRow = true) (hx : a.eval x = .pointer (some ⟨b, o, none⟩)) (hc : w.rangeAt b o cs)
    (hi : (P.info? ty).map (·.size) = some cs.length)
    (h : wpList P ops Q rest (a.put (some q) (.agg cs.toArray)) w) : wpList P ops Q ({ dst := some q, op := .load ty x, type := t, pos := pos, after := af, guard := none } :: rest) a w :=
  wpList_load_mid rfl ty x rfl b o hx cs d hc hu hd hi h
theorem set_info : (Try.prog.info? 55).map (·.size) = some 18 := by kernel_rfl
theorem set_range {w : World} {b : Nat} {T : Nat → Ln} (h : IsTlb w b T) (s : Nat) (hs : s < 8) (l0 l1 : Ln) (h0 : T (2 * s) = l0) (h1 : T (2 * s + 1) = l1) : w.rangeAt b (s * 18) [.bool l0.v, .int .i64 l0.t, .int .i64 l0.p, .int .i64 l0.f, .bool l0.w, .bool l0.u, .bool l0.x, .bool l0.g, .bool l0.d, .bool l1.v, .int .i64 l1.t, .int .i64 l1.p, .int .i64 l1.f, .bool l1.w, .bool l1.u, .bool l1.x, .bool l1.g, .bool l1.d] := by
  intro j v hv
  have a0 := h.1 (2 * s) (by omega)
  have a1 := h.1 (2 * s + 1) (by omega)
  rw [h0] at a0
  rw [h1] at a1
  by_cases c : j < 9
  · have := a0 j v (by rw [← hv]; match j, c with
      | 0, _ => rfl
      | 1, _ => rfl
      | 2, _ => rfl
      | 3, _ => rfl
      | 4, _ => rfl
      | 5, _ => rfl
      | 6, _ => rfl
      | 7, _ => rfl
      | 8, _ => rfl)
    rw [show s * 18 + j = 2 * s * 9 + j by omega]; exact this
  · obtain ⟨i, rfl⟩ : ∃ i, j = 9 + i := ⟨j - 9, by omega⟩
    have hi : i < 9 := by
      have := (List.getElem?_eq_some_iff.1 hv).1
      simp at this; omega
    have := a1 i v (by rw [← hv]; match i, hi with
      | 0, _ => rfl
      | 1, _ => rfl
      | 2, _ => rfl
      | 3, _ => rfl
      | 4, _ => rfl
      | 5, _ => rfl
      | 6, _ => rfl
      | 7, _ => rfl
      | 8, _ => rfl)
    rw [show s * 18 + (9 + i) = (2 * s + 1) * 9 + i by omega]; exact this
theorem own1 (w : World) (o : Obj) : (w.alloc o).heap[w.heap.size]? = some o := (MapKept.heap_alloc w o).1
theorem own2a (w : World) (o p : Obj) : ((w.alloc o).alloc p).heap[w.heap.size]? = some o := ((Go.Joins.below_alloc1 (w.alloc o) p).block _ (by rw [World.size_alloc]; omega)).trans (own1 w o)
theorem own2b (w : World) (o p : Obj) : ((w.alloc o).alloc p).heap[w.heap.size + 1]? = some p := by
  have := own1 (w.alloc o) p
  rw [World.size_alloc] at this; exact this
theorem range_block {w : World} {b : Nat} {C : Array Value} {t : TypeId} (h : w.heap[b]? = some (.cells C t (0, 0))) : w.rangeAt b 0 C.toList := fun j v hv => by
  rw [Nat.zero_add]
  exact (Go.Joins.cell_of_block h j).trans (by simpa using hv)
theorem there_block {w : World} {b : Nat} {C : Array Value} {t : TypeId} (h : w.heap[b]? = some (.cells C t (0, 0))) : w.there b 0 C.size := fun j hj => by
  rw [Nat.zero_add]
  exact ⟨by rw [Go.Joins.cell_of_block h j, Array.getElem?_eq_getElem hj]; rfl, Go.Joins.unfrozen_of_block h j⟩
theorem below_setCells {w x : World} (h : Below w.heap.size w x) (b o : Nat) (vs : List Value) (hb : w.heap.size ≤ b) : Below w.heap.size w (x.setCells b o vs) := by
  have g := grown_setCells b vs o x
  exact h.trans ⟨g.os, g.tape, g.output, g.size, fun k hk => g.block k (Nat.lt_of_lt_of_le hk h.size) (fun e => by have := Option.some.inj e; omega)⟩
def findT (T : Nat → Ln) (tag page : Int) : Ln × Bool :=
  if page < 0 then (Ln.zero, false) else if (T (2 * (page % 8).toNat)).fits tag page then (T (2 * (page % 8).toNat), true) else if (T (2 * (page % 8).toNat + 1)).fits tag page then (T (2 * (page % 8).toNat + 1), true) else (Ln.zero, false)
theorem ix0 (a0 a1 a2 a3 a4 a5 a6 a7 a8 a9 a10 a11 a12 a13 a14 a15 a16 a17 : Value) (W : World) : (Instr.index 55 (.agg #[a0, a1, a2, a3, a4, a5, a6, a7, a8, a9, a10, a11, a12, a13, a14, a15, a16, a17]) (.int .i64 0)).run Try.prog W = .ok (.agg #[a0, a1, a2, a3, a4, a5, a6, a7, a8]) W := by kernel_rfl
theorem ix1 (a0 a1 a2 a3 a4 a5 a6 a7 a8 a9 a10 a11 a12 a13 a14 a15 a16 a17 : Value) (W : World) : (Instr.index 55 (.agg #[a0, a1, a2, a3, a4, a5, a6, a7, a8, a9, a10, a11, a12, a13, a14, a15, a16, a17]) (.int .i64 1)).run Try.prog W = .ok (.agg #[a9, a10, a11, a12, a13, a14, a15, a16, a17]) W := by kernel_rfl
theorem results_pair {fn : Func} {p q : Tmp} {t : TypeId} (h : fn.results = #[.cell p t, .tmp q]) (tmps : Array Value) (P : Program) (w : World) (a : Addr) (x y : Value)
    (ha : tmps.getD p undef = .pointer (some a)) (hb : tmps.getD q undef = y) (hx : (loadVar t a).run P w = .ok x w) :
    (results fn tmps).run P w = .ok (.tuple #[x, y]) w := by
  simp only [results, h]
  have e1 : ∀ W : World, (asAddr (Value.pointer (some a))).run P W = .ok a W := fun _ => rfl
  simp at ha hb
  simp [Sem.run_bind, Result.andThen, ha, hb, e1, hx]
theorem ln_one (l : Ln) : (#[.bool l.v, .int .i64 l.t, .int .i64 l.p, .int .i64 l.f, .bool l.w, .bool l.u, .bool l.x, .bool l.g, .bool l.d] : Array Value).all (fun x => x.oneCell') = true := by simp [Value.oneCell']
set_option maxHeartbeats 400000 in
theorem find_neg (b : Nat) (tag page : Int) (hp : page < 0) (w : World) :
    Calls Try.prog 25 #[.pointer (some ⟨b, 0, none⟩), .int .i64 tag, .int .i64 page] w fun e w' => e = .returned (.tuple #[Ln.zero.val, .bool false]) ∧ Below w.heap.size w w' := by
  go_enter Try.func25, Try.ntmps25
  go_wp2_with fail
  go_returns
  exact ⟨rfl, Go.Joins.below_alloc1 _ _⟩
set_option maxHeartbeats 1000000 in
theorem find_a (b : Nat) (T : Nat → Ln) (tag page : Int) (s : Nat) (l0 l1 : Ln) (hp : 0 ≤ page) (hs : page % 8 = (s : Int)) (h0 : T (2 * s) = l0) (h1 : T (2 * s + 1) = l1) (f0 : l0.fits tag page = true)  (w : World) (h : IsTlb w b T) :
    Calls Try.prog 25 #[.pointer (some ⟨b, 0, none⟩), .int .i64 tag, .int .i64 page] w fun e w' => e = .returned (.tuple #[l0.val, .bool true]) ∧ Below w.heap.size w w' := by
  have hs8 : s < 8 := by omega
  have RG : Hid (w.rangeAt b (s * 18) [.bool l0.v, .int .i64 l0.t, .int .i64 l0.p, .int .i64 l0.f, .bool l0.w, .bool l0.u, .bool l0.x, .bool l0.g, .bool l0.d, .bool l1.v, .int .i64 l1.t, .int .i64 l1.p, .int .i64 l1.f, .bool l1.w, .bool l1.u, .bool l1.x, .bool l1.g, .bool l1.d]) := set_range h s hs8 l0 l1 h0 h1
  have hb := h.2.2
  have I0 := ix0
  have I1 := ix1
  have FA : Hid (∀ w : World, Calls Try.prog 40 #[.agg #[.bool l0.v, .int .i64 l0.t, .int .i64 l0.p, .int .i64 l0.f, .bool l0.w, .bool l0.u, .bool l0.x, .bool l0.g, .bool l0.d], .int .i64 tag, .int .i64 page] w fun e w' => e = .returned (.bool true) ∧ Below w.heap.size w w') := fun w => by rw [← f0]; exact fits_any l0 tag page w
  clear h h0 h1 f0 
  have k0 : (0 : Int) ≤ (s : Int) := by omega
  have k8 : (s : Int) < 8 := by omega
  have HS : Hid (page % 8 = (s : Int)) := hs
  go_enter Try.func25, Try.ntmps25
  go_wp2_with (refine load_pat b (s * 18) [.bool l0.v, .int .i64 l0.t, .int .i64 l0.p, .int .i64 l0.f, .bool l0.w, .bool l0.u, .bool l0.x, .bool l0.g, .bool l0.d, .bool l1.v, .int .i64 l1.t, .int .i64 l1.p, .int .i64 l1.f, .bool l1.w, .bool l1.u, .bool l1.x, .bool l1.g, .bool l1.d] (.array 2 54) ?hx ?hc ?hu ?hd ?hi ?rest; (case hx => rfl); (case hc => exact World.rangeAt_alloc RG.out _); (case hu => exact Try.underlying55); (case hd => rfl); (case hi => exact set_info))
  refine wp_loop_rounds 3 ?_
  rw [rounds_succ]
  go_wp2_with fail
  refine (FA.out _).mono ?_
  rintro e u1 ⟨rfl, hb1⟩
  have B1 : Hid (Below w.heap.size w u1) := below_then (Go.Joins.below_alloc2 _ _ _) hb1
  have R1 : Hid (u1.heap[w.heap.size]? = some (.cells #[.bool false, .int .i64 0, .int .i64 0, .int .i64 0, .bool false, .bool false, .bool false, .bool false, .bool false] 54 (0, 0))) := (hb1.block _ (by simp; omega)).trans (own2a w _ _)
  have L1 : Hid (u1.heap[w.heap.size + 1]? = some (.cells #[.bool l0.v, .int .i64 l0.t, .int .i64 l0.p, .int .i64 l0.f, .bool l0.w, .bool l0.u, .bool l0.x, .bool l0.g, .bool l0.d] 54 (0, 0))) := (hb1.block _ (by simp)).trans (own2b w _ _)
  have TH1 : Hid (u1.there w.heap.size 0 9) := there_block R1.out
  clear hb1
  have c0 : u1.cell? ⟨w.heap.size + 1, 0, none⟩ = some (.bool l0.v) := Go.Joins.cell_of_block L1.out 0
  have c1 : u1.cell? ⟨w.heap.size + 1, 1, none⟩ = some (.int .i64 l0.t) := Go.Joins.cell_of_block L1.out 1
  have c2 : u1.cell? ⟨w.heap.size + 1, 2, none⟩ = some (.int .i64 l0.p) := Go.Joins.cell_of_block L1.out 2
  have c3 : u1.cell? ⟨w.heap.size + 1, 3, none⟩ = some (.int .i64 l0.f) := Go.Joins.cell_of_block L1.out 3
  have c4 : u1.cell? ⟨w.heap.size + 1, 4, none⟩ = some (.bool l0.w) := Go.Joins.cell_of_block L1.out 4
  have c5 : u1.cell? ⟨w.heap.size + 1, 5, none⟩ = some (.bool l0.u) := Go.Joins.cell_of_block L1.out 5
  have c6 : u1.cell? ⟨w.heap.size + 1, 6, none⟩ = some (.bool l0.x) := Go.Joins.cell_of_block L1.out 6
  have c7 : u1.cell? ⟨w.heap.size + 1, 7, none⟩ = some (.bool l0.g) := Go.Joins.cell_of_block L1.out 7
  have c8 : u1.cell? ⟨w.heap.size + 1, 8, none⟩ = some (.bool l0.d) := Go.Joins.cell_of_block L1.out 8
  have r0 : u1.cell? ⟨w.heap.size, 0, none⟩ = some (.bool false) := Go.Joins.cell_of_block R1.out 0
  have z0 : u1.frozen? ⟨w.heap.size, 0, none⟩ = false := Go.Joins.unfrozen_of_block R1.out 0
  have r1 : u1.cell? ⟨w.heap.size, 1, none⟩ = some (.int .i64 0) := Go.Joins.cell_of_block R1.out 1
  have z1 : u1.frozen? ⟨w.heap.size, 1, none⟩ = false := Go.Joins.unfrozen_of_block R1.out 1
  have r2 : u1.cell? ⟨w.heap.size, 2, none⟩ = some (.int .i64 0) := Go.Joins.cell_of_block R1.out 2
  have z2 : u1.frozen? ⟨w.heap.size, 2, none⟩ = false := Go.Joins.unfrozen_of_block R1.out 2
  have r3 : u1.cell? ⟨w.heap.size, 3, none⟩ = some (.int .i64 0) := Go.Joins.cell_of_block R1.out 3
  have z3 : u1.frozen? ⟨w.heap.size, 3, none⟩ = false := Go.Joins.unfrozen_of_block R1.out 3
  have r4 : u1.cell? ⟨w.heap.size, 4, none⟩ = some (.bool false) := Go.Joins.cell_of_block R1.out 4
  have z4 : u1.frozen? ⟨w.heap.size, 4, none⟩ = false := Go.Joins.unfrozen_of_block R1.out 4
  have r5 : u1.cell? ⟨w.heap.size, 5, none⟩ = some (.bool false) := Go.Joins.cell_of_block R1.out 5
  have z5 : u1.frozen? ⟨w.heap.size, 5, none⟩ = false := Go.Joins.unfrozen_of_block R1.out 5
  have r6 : u1.cell? ⟨w.heap.size, 6, none⟩ = some (.bool false) := Go.Joins.cell_of_block R1.out 6
  have z6 : u1.frozen? ⟨w.heap.size, 6, none⟩ = false := Go.Joins.unfrozen_of_block R1.out 6
  have r7 : u1.cell? ⟨w.heap.size, 7, none⟩ = some (.bool false) := Go.Joins.cell_of_block R1.out 7
  have z7 : u1.frozen? ⟨w.heap.size, 7, none⟩ = false := Go.Joins.unfrozen_of_block R1.out 7
  have r8 : u1.cell? ⟨w.heap.size, 8, none⟩ = some (.bool false) := Go.Joins.cell_of_block R1.out 8
  have z8 : u1.frozen? ⟨w.heap.size, 8, none⟩ = false := Go.Joins.unfrozen_of_block R1.out 8
  go_wp2_with fail
  change bodyPost _ _ _ _ _ (u1.setCells w.heap.size 0 [.bool l0.v, .int .i64 l0.t, .int .i64 l0.p, .int .i64 l0.f, .bool l0.w, .bool l0.u, .bool l0.x, .bool l0.g, .bool l0.d])
  have hr := run_loadVar_mid (P := Try.prog) (u1.setCells w.heap.size 0 [.bool l0.v, .int .i64 l0.t, .int .i64 l0.p, .int .i64 l0.f, .bool l0.w, .bool l0.u, .bool l0.x, .bool l0.g, .bool l0.d]) w.heap.size 0 54 [.bool l0.v, .int .i64 l0.t, .int .i64 l0.p, .int .i64 l0.f, .bool l0.w, .bool l0.u, .bool l0.x, .bool l0.g, .bool l0.d] _ (World.rangeAt_setCells_same u1 w.heap.size 0 [.bool l0.v, .int .i64 l0.t, .int .i64 l0.p, .int .i64 l0.f, .bool l0.w, .bool l0.u, .bool l0.x, .bool l0.g, .bool l0.d] TH1.out) Try.underlying54 rfl line_info
  refine bodyPost_ret (v := .tuple #[.agg #[.bool l0.v, .int .i64 l0.t, .int .i64 l0.p, .int .i64 l0.f, .bool l0.w, .bool l0.u, .bool l0.x, .bool l0.g, .bool l0.d], .bool true]) ?_ rfl ⟨rfl, below_setCells B1.out _ _ _ (Nat.le_refl _)⟩
  exact results_pair Try.results25 _ _ _ _ _ _ rfl rfl hr
set_option maxHeartbeats 1000000 in
theorem find_b (b : Nat) (T : Nat → Ln) (tag page : Int) (s : Nat) (l0 l1 : Ln) (hp : 0 ≤ page) (hs : page % 8 = (s : Int)) (h0 : T (2 * s) = l0) (h1 : T (2 * s + 1) = l1) (f0 : l0.fits tag page = false) (f1 : l1.fits tag page = true) (w : World) (h : IsTlb w b T) :
    Calls Try.prog 25 #[.pointer (some ⟨b, 0, none⟩), .int .i64 tag, .int .i64 page] w fun e w' => e = .returned (.tuple #[l1.val, .bool true]) ∧ Below w.heap.size w w' := by
  have hs8 : s < 8 := by omega
  have RG : Hid (w.rangeAt b (s * 18) [.bool l0.v, .int .i64 l0.t, .int .i64 l0.p, .int .i64 l0.f, .bool l0.w, .bool l0.u, .bool l0.x, .bool l0.g, .bool l0.d, .bool l1.v, .int .i64 l1.t, .int .i64 l1.p, .int .i64 l1.f, .bool l1.w, .bool l1.u, .bool l1.x, .bool l1.g, .bool l1.d]) := set_range h s hs8 l0 l1 h0 h1
  have hb := h.2.2
  have I0 := ix0
  have I1 := ix1
  have FA : Hid (∀ w : World, Calls Try.prog 40 #[.agg #[.bool l0.v, .int .i64 l0.t, .int .i64 l0.p, .int .i64 l0.f, .bool l0.w, .bool l0.u, .bool l0.x, .bool l0.g, .bool l0.d], .int .i64 tag, .int .i64 page] w fun e w' => e = .returned (.bool false) ∧ Below w.heap.size w w') := fun w => by rw [← f0]; exact fits_any l0 tag page w
  have FB : Hid (∀ w : World, Calls Try.prog 40 #[.agg #[.bool l1.v, .int .i64 l1.t, .int .i64 l1.p, .int .i64 l1.f, .bool l1.w, .bool l1.u, .bool l1.x, .bool l1.g, .bool l1.d], .int .i64 tag, .int .i64 page] w fun e w' => e = .returned (.bool true) ∧ Below w.heap.size w w') := fun w => by rw [← f1]; exact fits_any l1 tag page w
  clear h h0 h1 f0 f1
  have k0 : (0 : Int) ≤ (s : Int) := by omega
  have k8 : (s : Int) < 8 := by omega
  have HS : Hid (page % 8 = (s : Int)) := hs
  go_enter Try.func25, Try.ntmps25
  go_wp2_with (refine load_pat b (s * 18) [.bool l0.v, .int .i64 l0.t, .int .i64 l0.p, .int .i64 l0.f, .bool l0.w, .bool l0.u, .bool l0.x, .bool l0.g, .bool l0.d, .bool l1.v, .int .i64 l1.t, .int .i64 l1.p, .int .i64 l1.f, .bool l1.w, .bool l1.u, .bool l1.x, .bool l1.g, .bool l1.d] (.array 2 54) ?hx ?hc ?hu ?hd ?hi ?rest; (case hx => rfl); (case hc => exact World.rangeAt_alloc RG.out _); (case hu => exact Try.underlying55); (case hd => rfl); (case hi => exact set_info))
  refine wp_loop_rounds 3 ?_
  rw [rounds_succ]
  go_wp2_with fail
  refine (FA.out _).mono ?_
  rintro e u1 ⟨rfl, hb1⟩
  have B1 : Hid (Below w.heap.size w u1) := below_then (Go.Joins.below_alloc2 _ _ _) hb1
  have R1 : Hid (u1.heap[w.heap.size]? = some (.cells #[.bool false, .int .i64 0, .int .i64 0, .int .i64 0, .bool false, .bool false, .bool false, .bool false, .bool false] 54 (0, 0))) := (hb1.block _ (by simp; omega)).trans (own2a w _ _)
  have L1 : Hid (u1.heap[w.heap.size + 1]? = some (.cells #[.bool l0.v, .int .i64 l0.t, .int .i64 l0.p, .int .i64 l0.f, .bool l0.w, .bool l0.u, .bool l0.x, .bool l0.g, .bool l0.d] 54 (0, 0))) := (hb1.block _ (by simp)).trans (own2b w _ _)
  have TH1 : Hid (u1.there w.heap.size 0 9) := there_block R1.out
  clear hb1
  go_wp2_with fail
  rw [rounds_succ]
  go_wp2_with fail
  refine (FB.out _).mono ?_
  rintro e u2 ⟨rfl, hb2⟩
  have B2 : Hid (Below w.heap.size w u2) := below_then (below_new B1.out _) hb2
  have R2 : Hid (u2.heap[w.heap.size]? = some (.cells #[.bool false, .int .i64 0, .int .i64 0, .int .i64 0, .bool false, .bool false, .bool false, .bool false, .bool false] 54 (0, 0))) := (hb2.block _ (by have := (Array.getElem?_eq_some_iff.1 R1.out).1; simp; omega)).trans (((Go.Joins.below_alloc1 u1 _).block _ (Array.getElem?_eq_some_iff.1 R1.out).1).trans R1.out)
  have L2 : Hid (u2.heap[u1.heap.size]? = some (.cells #[.bool l1.v, .int .i64 l1.t, .int .i64 l1.p, .int .i64 l1.f, .bool l1.w, .bool l1.u, .bool l1.x, .bool l1.g, .bool l1.d] 54 (0, 0))) := (hb2.block _ (by simp)).trans (own1 u1 _)
  have TH2 : Hid (u2.there w.heap.size 0 9) := there_block R2.out
  clear hb2 R1 L1 B1 TH1
  have c0 : u2.cell? ⟨u1.heap.size, 0, none⟩ = some (.bool l1.v) := Go.Joins.cell_of_block L2.out 0
  have c1 : u2.cell? ⟨u1.heap.size, 1, none⟩ = some (.int .i64 l1.t) := Go.Joins.cell_of_block L2.out 1
  have c2 : u2.cell? ⟨u1.heap.size, 2, none⟩ = some (.int .i64 l1.p) := Go.Joins.cell_of_block L2.out 2
  have c3 : u2.cell? ⟨u1.heap.size, 3, none⟩ = some (.int .i64 l1.f) := Go.Joins.cell_of_block L2.out 3
  have c4 : u2.cell? ⟨u1.heap.size, 4, none⟩ = some (.bool l1.w) := Go.Joins.cell_of_block L2.out 4
  have c5 : u2.cell? ⟨u1.heap.size, 5, none⟩ = some (.bool l1.u) := Go.Joins.cell_of_block L2.out 5
  have c6 : u2.cell? ⟨u1.heap.size, 6, none⟩ = some (.bool l1.x) := Go.Joins.cell_of_block L2.out 6
  have c7 : u2.cell? ⟨u1.heap.size, 7, none⟩ = some (.bool l1.g) := Go.Joins.cell_of_block L2.out 7
  have c8 : u2.cell? ⟨u1.heap.size, 8, none⟩ = some (.bool l1.d) := Go.Joins.cell_of_block L2.out 8
  have r0 : u2.cell? ⟨w.heap.size, 0, none⟩ = some (.bool false) := Go.Joins.cell_of_block R2.out 0
  have z0 : u2.frozen? ⟨w.heap.size, 0, none⟩ = false := Go.Joins.unfrozen_of_block R2.out 0
  have r1 : u2.cell? ⟨w.heap.size, 1, none⟩ = some (.int .i64 0) := Go.Joins.cell_of_block R2.out 1
  have z1 : u2.frozen? ⟨w.heap.size, 1, none⟩ = false := Go.Joins.unfrozen_of_block R2.out 1
  have r2 : u2.cell? ⟨w.heap.size, 2, none⟩ = some (.int .i64 0) := Go.Joins.cell_of_block R2.out 2
  have z2 : u2.frozen? ⟨w.heap.size, 2, none⟩ = false := Go.Joins.unfrozen_of_block R2.out 2
  have r3 : u2.cell? ⟨w.heap.size, 3, none⟩ = some (.int .i64 0) := Go.Joins.cell_of_block R2.out 3
  have z3 : u2.frozen? ⟨w.heap.size, 3, none⟩ = false := Go.Joins.unfrozen_of_block R2.out 3
  have r4 : u2.cell? ⟨w.heap.size, 4, none⟩ = some (.bool false) := Go.Joins.cell_of_block R2.out 4
  have z4 : u2.frozen? ⟨w.heap.size, 4, none⟩ = false := Go.Joins.unfrozen_of_block R2.out 4
  have r5 : u2.cell? ⟨w.heap.size, 5, none⟩ = some (.bool false) := Go.Joins.cell_of_block R2.out 5
  have z5 : u2.frozen? ⟨w.heap.size, 5, none⟩ = false := Go.Joins.unfrozen_of_block R2.out 5
  have r6 : u2.cell? ⟨w.heap.size, 6, none⟩ = some (.bool false) := Go.Joins.cell_of_block R2.out 6
  have z6 : u2.frozen? ⟨w.heap.size, 6, none⟩ = false := Go.Joins.unfrozen_of_block R2.out 6
  have r7 : u2.cell? ⟨w.heap.size, 7, none⟩ = some (.bool false) := Go.Joins.cell_of_block R2.out 7
  have z7 : u2.frozen? ⟨w.heap.size, 7, none⟩ = false := Go.Joins.unfrozen_of_block R2.out 7
  have r8 : u2.cell? ⟨w.heap.size, 8, none⟩ = some (.bool false) := Go.Joins.cell_of_block R2.out 8
  have z8 : u2.frozen? ⟨w.heap.size, 8, none⟩ = false := Go.Joins.unfrozen_of_block R2.out 8
  go_wp2_with fail
  change bodyPost _ _ _ _ _ (u2.setCells w.heap.size 0 [.bool l1.v, .int .i64 l1.t, .int .i64 l1.p, .int .i64 l1.f, .bool l1.w, .bool l1.u, .bool l1.x, .bool l1.g, .bool l1.d])
  have hr := run_loadVar_mid (P := Try.prog) (u2.setCells w.heap.size 0 [.bool l1.v, .int .i64 l1.t, .int .i64 l1.p, .int .i64 l1.f, .bool l1.w, .bool l1.u, .bool l1.x, .bool l1.g, .bool l1.d]) w.heap.size 0 54 [.bool l1.v, .int .i64 l1.t, .int .i64 l1.p, .int .i64 l1.f, .bool l1.w, .bool l1.u, .bool l1.x, .bool l1.g, .bool l1.d] _ (World.rangeAt_setCells_same u2 w.heap.size 0 [.bool l1.v, .int .i64 l1.t, .int .i64 l1.p, .int .i64 l1.f, .bool l1.w, .bool l1.u, .bool l1.x, .bool l1.g, .bool l1.d] TH2.out) Try.underlying54 rfl line_info
  refine bodyPost_ret (v := .tuple #[.agg #[.bool l1.v, .int .i64 l1.t, .int .i64 l1.p, .int .i64 l1.f, .bool l1.w, .bool l1.u, .bool l1.x, .bool l1.g, .bool l1.d], .bool true]) ?_ rfl ⟨rfl, below_setCells B2.out _ _ _ (Nat.le_refl _)⟩
  exact results_pair Try.results25 _ _ _ _ _ _ rfl rfl hr
set_option maxHeartbeats 1000000 in
theorem find_c (b : Nat) (T : Nat → Ln) (tag page : Int) (s : Nat) (l0 l1 : Ln) (hp : 0 ≤ page) (hs : page % 8 = (s : Int)) (h0 : T (2 * s) = l0) (h1 : T (2 * s + 1) = l1) (f0 : l0.fits tag page = false) (f1 : l1.fits tag page = false) (w : World) (h : IsTlb w b T) :
    Calls Try.prog 25 #[.pointer (some ⟨b, 0, none⟩), .int .i64 tag, .int .i64 page] w fun e w' => e = .returned (.tuple #[Ln.zero.val, .bool false]) ∧ Below w.heap.size w w' := by
  have hs8 : s < 8 := by omega
  have RG : Hid (w.rangeAt b (s * 18) [.bool l0.v, .int .i64 l0.t, .int .i64 l0.p, .int .i64 l0.f, .bool l0.w, .bool l0.u, .bool l0.x, .bool l0.g, .bool l0.d, .bool l1.v, .int .i64 l1.t, .int .i64 l1.p, .int .i64 l1.f, .bool l1.w, .bool l1.u, .bool l1.x, .bool l1.g, .bool l1.d]) := set_range h s hs8 l0 l1 h0 h1
  have hb := h.2.2
  have I0 := ix0
  have I1 := ix1
  have FA : Hid (∀ w : World, Calls Try.prog 40 #[.agg #[.bool l0.v, .int .i64 l0.t, .int .i64 l0.p, .int .i64 l0.f, .bool l0.w, .bool l0.u, .bool l0.x, .bool l0.g, .bool l0.d], .int .i64 tag, .int .i64 page] w fun e w' => e = .returned (.bool false) ∧ Below w.heap.size w w') := fun w => by rw [← f0]; exact fits_any l0 tag page w
  have FB : Hid (∀ w : World, Calls Try.prog 40 #[.agg #[.bool l1.v, .int .i64 l1.t, .int .i64 l1.p, .int .i64 l1.f, .bool l1.w, .bool l1.u, .bool l1.x, .bool l1.g, .bool l1.d], .int .i64 tag, .int .i64 page] w fun e w' => e = .returned (.bool false) ∧ Below w.heap.size w w') := fun w => by rw [← f1]; exact fits_any l1 tag page w
  clear h h0 h1 f0 f1
  have k0 : (0 : Int) ≤ (s : Int) := by omega
  have k8 : (s : Int) < 8 := by omega
  have HS : Hid (page % 8 = (s : Int)) := hs
  go_enter Try.func25, Try.ntmps25
  go_wp2_with (refine load_pat b (s * 18) [.bool l0.v, .int .i64 l0.t, .int .i64 l0.p, .int .i64 l0.f, .bool l0.w, .bool l0.u, .bool l0.x, .bool l0.g, .bool l0.d, .bool l1.v, .int .i64 l1.t, .int .i64 l1.p, .int .i64 l1.f, .bool l1.w, .bool l1.u, .bool l1.x, .bool l1.g, .bool l1.d] (.array 2 54) ?hx ?hc ?hu ?hd ?hi ?rest; (case hx => rfl); (case hc => exact World.rangeAt_alloc RG.out _); (case hu => exact Try.underlying55); (case hd => rfl); (case hi => exact set_info))
  refine wp_loop_rounds 3 ?_
  rw [rounds_succ]
  go_wp2_with fail
  refine (FA.out _).mono ?_
  rintro e u1 ⟨rfl, hb1⟩
  have B1 : Hid (Below w.heap.size w u1) := below_then (Go.Joins.below_alloc2 _ _ _) hb1
  have R1 : Hid (u1.heap[w.heap.size]? = some (.cells #[.bool false, .int .i64 0, .int .i64 0, .int .i64 0, .bool false, .bool false, .bool false, .bool false, .bool false] 54 (0, 0))) := (hb1.block _ (by simp; omega)).trans (own2a w _ _)
  have L1 : Hid (u1.heap[w.heap.size + 1]? = some (.cells #[.bool l0.v, .int .i64 l0.t, .int .i64 l0.p, .int .i64 l0.f, .bool l0.w, .bool l0.u, .bool l0.x, .bool l0.g, .bool l0.d] 54 (0, 0))) := (hb1.block _ (by simp)).trans (own2b w _ _)
  have TH1 : Hid (u1.there w.heap.size 0 9) := there_block R1.out
  clear hb1
  go_wp2_with fail
  rw [rounds_succ]
  go_wp2_with fail
  refine (FB.out _).mono ?_
  rintro e u2 ⟨rfl, hb2⟩
  have B2 : Hid (Below w.heap.size w u2) := below_then (below_new B1.out _) hb2
  have R2 : Hid (u2.heap[w.heap.size]? = some (.cells #[.bool false, .int .i64 0, .int .i64 0, .int .i64 0, .bool false, .bool false, .bool false, .bool false, .bool false] 54 (0, 0))) := (hb2.block _ (by have := (Array.getElem?_eq_some_iff.1 R1.out).1; simp; omega)).trans (((Go.Joins.below_alloc1 u1 _).block _ (Array.getElem?_eq_some_iff.1 R1.out).1).trans R1.out)
  have L2 : Hid (u2.heap[u1.heap.size]? = some (.cells #[.bool l1.v, .int .i64 l1.t, .int .i64 l1.p, .int .i64 l1.f, .bool l1.w, .bool l1.u, .bool l1.x, .bool l1.g, .bool l1.d] 54 (0, 0))) := (hb2.block _ (by simp)).trans (own1 u1 _)
  have TH2 : Hid (u2.there w.heap.size 0 9) := there_block R2.out
  clear hb2 R1 L1 B1 TH1
  go_wp2_with fail
  rw [rounds_succ]
  have r0 : u2.cell? ⟨w.heap.size, 0, none⟩ = some (.bool false) := Go.Joins.cell_of_block R2.out 0
  have z0 : u2.frozen? ⟨w.heap.size, 0, none⟩ = false := Go.Joins.unfrozen_of_block R2.out 0
  have r1 : u2.cell? ⟨w.heap.size, 1, none⟩ = some (.int .i64 0) := Go.Joins.cell_of_block R2.out 1
  have z1 : u2.frozen? ⟨w.heap.size, 1, none⟩ = false := Go.Joins.unfrozen_of_block R2.out 1
  have r2 : u2.cell? ⟨w.heap.size, 2, none⟩ = some (.int .i64 0) := Go.Joins.cell_of_block R2.out 2
  have z2 : u2.frozen? ⟨w.heap.size, 2, none⟩ = false := Go.Joins.unfrozen_of_block R2.out 2
  have r3 : u2.cell? ⟨w.heap.size, 3, none⟩ = some (.int .i64 0) := Go.Joins.cell_of_block R2.out 3
  have z3 : u2.frozen? ⟨w.heap.size, 3, none⟩ = false := Go.Joins.unfrozen_of_block R2.out 3
  have r4 : u2.cell? ⟨w.heap.size, 4, none⟩ = some (.bool false) := Go.Joins.cell_of_block R2.out 4
  have z4 : u2.frozen? ⟨w.heap.size, 4, none⟩ = false := Go.Joins.unfrozen_of_block R2.out 4
  have r5 : u2.cell? ⟨w.heap.size, 5, none⟩ = some (.bool false) := Go.Joins.cell_of_block R2.out 5
  have z5 : u2.frozen? ⟨w.heap.size, 5, none⟩ = false := Go.Joins.unfrozen_of_block R2.out 5
  have r6 : u2.cell? ⟨w.heap.size, 6, none⟩ = some (.bool false) := Go.Joins.cell_of_block R2.out 6
  have z6 : u2.frozen? ⟨w.heap.size, 6, none⟩ = false := Go.Joins.unfrozen_of_block R2.out 6
  have r7 : u2.cell? ⟨w.heap.size, 7, none⟩ = some (.bool false) := Go.Joins.cell_of_block R2.out 7
  have z7 : u2.frozen? ⟨w.heap.size, 7, none⟩ = false := Go.Joins.unfrozen_of_block R2.out 7
  have r8 : u2.cell? ⟨w.heap.size, 8, none⟩ = some (.bool false) := Go.Joins.cell_of_block R2.out 8
  have z8 : u2.frozen? ⟨w.heap.size, 8, none⟩ = false := Go.Joins.unfrozen_of_block R2.out 8
  go_wp2_with fail
  change bodyPost _ _ _ _ _ (u2.setCells w.heap.size 0 [.bool false, .int .i64 0, .int .i64 0, .int .i64 0, .bool false, .bool false, .bool false, .bool false, .bool false])
  have hr := run_loadVar_mid (P := Try.prog) (u2.setCells w.heap.size 0 [.bool false, .int .i64 0, .int .i64 0, .int .i64 0, .bool false, .bool false, .bool false, .bool false, .bool false]) w.heap.size 0 54 [.bool false, .int .i64 0, .int .i64 0, .int .i64 0, .bool false, .bool false, .bool false, .bool false, .bool false] _ (World.rangeAt_setCells_same u2 w.heap.size 0 [.bool false, .int .i64 0, .int .i64 0, .int .i64 0, .bool false, .bool false, .bool false, .bool false, .bool false] TH2.out) Try.underlying54 rfl line_info
  refine bodyPost_ret (v := .tuple #[.agg #[.bool false, .int .i64 0, .int .i64 0, .int .i64 0, .bool false, .bool false, .bool false, .bool false, .bool false], .bool false]) ?_ rfl ⟨rfl, below_setCells B2.out _ _ _ (Nat.le_refl _)⟩
  exact results_pair Try.results25 _ _ _ _ _ _ rfl rfl hr
end Go.Proofs.Ytihedjlcjkbjfaa
