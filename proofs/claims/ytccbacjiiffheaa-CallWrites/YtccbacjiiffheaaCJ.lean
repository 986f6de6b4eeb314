/- Read. -/
import Derived.Test.YtccbacjiiffheaaCG
import Derived.Test.YtccbacjiiffheaaCH
import Derived.Test.YtccbacjiiffheaaCI
namespace Go.Proofs.Ytccbacjiiffheaa
open Go.ChangeShapes Go.WideShapes Go.ChangeAt Go.RowKit Go.Maps
set_option linter.unusedSimpArgs false
set_option linter.unusedVariables false

/-- the variables of Read's results stand in blocks of their own -/
structure Door (w W : World) : Prop where
  f : W.there (w.heap.size + 1) 0 13
  e : W.cell? ⟨w.heap.size + 1 + 1, 0, none⟩ = some (.int .i64 0)
  z : W.frozen? ⟨w.heap.size + 1 + 1, 0, none⟩ = false
  l : w.heap.size + 1 + 1 < W.heap.size
  b : Below w.heap.size w W
theorem there_kb {W W' : World} {b o n x : Nat} (h : W.there b o n) (hb : Kb x W W') (l : b < W.heap.size) (ne : b ≠ x) : W'.there b o n := fun j hj => by
  obtain ⟨h1, h2⟩ := h j hj
  exact ⟨by rw [World.cell?_of_block (a := ⟨b, o + j, none⟩) (hb.block b l ne)]; exact h1, by rw [World.frozen?_of_block (a := ⟨b, o + j, none⟩) (hb.block b l ne)]; exact h2⟩
theorem Door.kb {w W W' : World} (h : Door w W) (hb : Kb (w.heap.size + 1 + 1 + 1) W W') : Door w W' :=
  ⟨there_kb h.f hb (by have := h.l; omega) (by omega), (hb.cell h.l (by omega)).trans h.e, (World.frozen?_of_block (a := ⟨w.heap.size + 1 + 1, 0, none⟩) (hb.block (w.heap.size + 1 + 1) h.l (by omega))).trans h.z, Nat.lt_of_lt_of_le h.l hb.size,
   h.b.trans ⟨hb.os, hb.tape, hb.output, hb.size, fun k hk => hb.block k (Nat.lt_of_lt_of_le hk h.b.size) (by omega)⟩⟩
theorem size_scs (W : World) (c : Nat) : ∀ (vs : List Value) (o : Nat), (W.setCells c o vs).heap.size = W.heap.size := fun vs => by
  induction vs generalizing W with
  | nil => intro o; rfl
  | cons v r ih =>
    intro o
    rw [World.setCells, ih]
    simp
theorem Door.scs {w W : World} (h : Door w W) (vs : List Value) : Door w (W.setCells (w.heap.size + 1) 0 vs) := by
  have k := kb_scs (x := w.heap.size + 1) (w := w) (⟨h.b.os, h.b.tape, h.b.output, h.b.size, fun j hj _ => h.b.block j hj⟩ : Kb (w.heap.size + 1) w W) (c := w.heap.size + 1) (by omega) vs 0
  refine ⟨World.there_setCells h.f _ _ _, (cell_setCells_ne (by show w.heap.size + 1 + 1 ≠ _; omega)).trans h.e, (World.frozen?_setCells _ _ _ _ _).trans h.z, ?_, ⟨k.os, k.tape, k.output, k.size, fun j hj => k.block j hj (by omega)⟩⟩
  rw [size_scs]; exact h.l
theorem own2a (w : World) (a b c d : Obj) : ((((w.alloc a).alloc b).alloc c).alloc d).heap[w.heap.size + 1]? = some b := by
  have h := own1 (w.alloc a) b
  rw [World.size_alloc] at h
  have h2 := (Go.Joins.below_alloc2 ((w.alloc a).alloc b) c d).block (w.heap.size + 1) (by simp)
  exact h2.trans h
theorem own2b (w : World) (a b c d : Obj) : ((((w.alloc a).alloc b).alloc c).alloc d).heap[w.heap.size + 1 + 1]? = some c := by
  have h := own1 ((w.alloc a).alloc b) c
  simp only [World.size_alloc] at h
  have h2 := (Go.Joins.below_alloc1 (((w.alloc a).alloc b).alloc c) d).block (w.heap.size + 1 + 1) (by simp)
  exact h2.trans h
theorem own2c (w : World) (a b c d : Obj) : ((((w.alloc a).alloc b).alloc c).alloc d).heap[w.heap.size + 1 + 1 + 1]? = some d := by
  have h := own1 (((w.alloc a).alloc b).alloc c) d
  simp only [World.size_alloc] at h
  exact h
theorem Door.made (w : World) (a d : Obj) : Door w ((((w.alloc a).alloc (.cells #[.int .i64 0, .int .i64 0, .int .i64 0, .bool false, .bool false, .bool false, .int .u64 0, .int .i64 0, .int .u64 0, .int .i64 0, .int .i64 0, .int .i64 0, .int .i64 0] 30)).alloc (.cells #[.int .i64 0] 31)).alloc d) := by
  have h1 : Blk _ _ [.int .i64 0, .int .i64 0, .int .i64 0, .bool false, .bool false, .bool false, .int .u64 0, .int .i64 0, .int .u64 0, .int .i64 0, .int .i64 0, .int .i64 0, .int .i64 0] 30 := own2a w a (.cells #[.int .i64 0, .int .i64 0, .int .i64 0, .bool false, .bool false, .bool false, .int .u64 0, .int .i64 0, .int .u64 0, .int .i64 0, .int .i64 0, .int .i64 0, .int .i64 0] 30) (.cells #[.int .i64 0] 31) d
  have h2 : Blk _ _ [.int .i64 0] 31 := own2b w a (.cells #[.int .i64 0, .int .i64 0, .int .i64 0, .bool false, .bool false, .bool false, .int .u64 0, .int .i64 0, .int .u64 0, .int .i64 0, .int .i64 0, .int .i64 0, .int .i64 0] 30) (.cells #[.int .i64 0] 31) d
  exact ⟨h1.there, h2.cell 0, h2.free 0, by simp, (((((Below.refl _ _).alloc (by simp) _).alloc (by simp; try omega) _).alloc (by simp; try omega) _).alloc (by simp; try omega) _)⟩
theorem range_cell {w : World} {b : Nat} {v : Value} (h : w.rangeAt b 0 [v]) : w.cell? ⟨b, 0, none⟩ = some v := by have := h 0 v rfl; rwa [Nat.zero_add] at this
theorem load_errno (W : World) (b : Nat) (er : Int) (h : W.cell? ⟨b, 0, none⟩ = some (.int .i64 er)) : (loadVar 31 ⟨b, 0, none⟩).run Try.prog W = .ok (.int .i64 er) W := by
  simp [loadVar, go_sem, h]
theorem results_cell2 {fn : Func} {p q : Tmp} {t1 t2 : TypeId} (h : fn.results = #[.cell p t1, .cell q t2]) (tmps : Array Value) (P : Program) (w : World) (a b : Addr) (x y : Value)
    (ha : tmps.getD p undef = .pointer (some a)) (hb : tmps.getD q undef = .pointer (some b))
    (hx : (loadVar t1 a).run P w = .ok x w) (hy : (loadVar t2 b).run P w = .ok y w) :
    (results fn tmps).run P w = .ok (.tuple #[x, y]) w := by
  simp only [results, h]
  have e1 : ∀ W : World, (asAddr (Value.pointer (some a))).run P W = .ok a W := fun _ => rfl
  have e2 : ∀ W : World, (asAddr (Value.pointer (some b))).run P W = .ok b W := fun _ => rfl
  simp at ha hb
  simp [Sem.run_bind, Result.andThen, ha, hb, e1, e2, hx, hy]
set_option maxHeartbeats 400000 in
theorem read_door (w W : World) (tmps : Array Value) (h : Door w W)
    (h2 : tmps.getD 2 undef = .pointer (some ⟨w.heap.size + 1, 0, none⟩)) (h3 : tmps.getD 3 undef = .pointer (some ⟨w.heap.size + 1 + 1, 0, none⟩)) :
    bodyPostD Try.prog Try.f9 (fun e w' => e = .returned (.tuple #[Cl.zero.val, .int .i64 13]) ∧ Below w.heap.size w w') (Exit.panic [refv])
      { tmps := tmps, defers := [{ target := Target.fn (Fn.func 21) #[.pointer (some ⟨w.heap.size + 1, 0, none⟩), .pointer (some ⟨w.heap.size + 1 + 1, 0, none⟩)], args := #[] }] } W := by
  refine leaves_cons (f := 21) (args := #[.pointer (some ⟨w.heap.size + 1, 0, none⟩), .pointer (some ⟨w.heap.size + 1 + 1, 0, none⟩)]) (by simp) (by simp [go_sem]) ?_
  refine (catch_ref (w.heap.size + 1) (w.heap.size + 1 + 1) W h.f h.e h.z (by have := h.l; omega) h.l (by omega)).mono ?_
  rintro e u' w'' ⟨rfl, rfl, r1, r2, hk⟩
  have hb : Below w.heap.size w w'' := h.b.trans ⟨hk.os, hk.tape, hk.output, hk.size, fun k l => hk.block k (Nat.lt_of_lt_of_le l h.b.size) (by omega) (by omega)⟩
  have hr : (results Try.f9 tmps).run Try.prog w'' = .ok (.tuple #[Cl.zero.val, .int .i64 13]) w'' :=
    results_cell2 Try.results9 tmps Try.prog w'' _ _ _ _ h2 h3 (run_loadVar_mid w'' _ 0 30 [.int .i64 0, .int .i64 0, .int .i64 0, .bool false, .bool false, .bool false, .int .u64 0, .int .i64 0, .int .u64 0, .int .i64 0, .int .i64 0, .int .i64 0, .int .i64 0] _ r1 Try.underlying30 rfl call_info) (load_errno w'' _ 13 (range_cell r2))
  exact ⟨_, hr, rfl, hb⟩
theorem read_end (w X : World) (vs : List Value) (hl : vs.length = 13) (tmps : Array Value) (R : Ending → World → Prop)
    (h2 : tmps.getD 2 undef = .pointer (some ⟨w.heap.size + 1, 0, none⟩)) (h3 : tmps.getD 3 undef = .pointer (some ⟨w.heap.size + 1 + 1, 0, none⟩))
    (r1 : X.rangeAt (w.heap.size + 1) 0 vs) (r2 : X.cell? ⟨w.heap.size + 1 + 1, 0, none⟩ = some (.int .i64 0))
    (hR : R (.returned (.tuple #[.agg vs.toArray, .int .i64 0])) X) :
    bodyPostD Try.prog Try.f9 R Exit.ret { tmps := tmps, defers := [{ target := Target.fn (Fn.func 21) #[.pointer (some ⟨w.heap.size + 1, 0, none⟩), .pointer (some ⟨w.heap.size + 1 + 1, 0, none⟩)], args := #[] }] } X := by
  refine leaves_cons (f := 21) (args := #[.pointer (some ⟨w.heap.size + 1, 0, none⟩), .pointer (some ⟨w.heap.size + 1 + 1, 0, none⟩)]) (by simp) (by simp [go_sem]) ?_
  refine (catch_idle _ _ _).mono ?_
  rintro e u' w'' ⟨rfl, rfl, rfl⟩
  exact ⟨_, results_cell2 Try.results9 tmps Try.prog w'' _ _ _ _ h2 h3 (run_loadVar_mid w'' _ 0 30 vs _ r1 Try.underlying30 rfl (by rw [hl]; exact call_info)) (load_errno w'' _ 0 r2), hR⟩
set_option maxHeartbeats 1000000 in
theorem read_no1 (W : Wd) (hw : W.wf) (hc : callV W = none) (w : World) : Calls Try.prog 9 #[W.val] w fun e w' => e = .returned (.tuple #[Cl.zero.val, .int .i64 13]) ∧ Below w.heap.size w w' := by
  have CA : Hid (∀ (b : Nat) (w : World), IsR w b W 0 → Calls Try.prog 22 #[.pointer (some ⟨b, 0, none⟩)] w fun e w' => e = .panicked [refv] ∧ Kb b w w') := fun b w h => call_none b W hw hc w h
  clear hw hc
  have hmf : ∀ (fn : Fn) (first cap : Array Value) (w : World), (Instr.makeFunc fn first cap).run Try.prog w = .ok (.func fn first cap) w := fun _ _ _ _ => rfl
  obtain ⟨x0, x1, x2, x3, x4, x5⟩ := W
  have R0 : Hid (IsR ((((w.alloc (.cells #[.int .u64 x0, .int .u64 x1, .int .u64 x2, .int .u64 x3, .int .u64 x4, .int .u64 x5] 24)).alloc (.cells #[.int .i64 0, .int .i64 0, .int .i64 0, .bool false, .bool false, .bool false, .int .u64 0, .int .i64 0, .int .u64 0, .int .i64 0, .int .i64 0, .int .i64 0, .int .i64 0] 30)).alloc (.cells #[.int .i64 0] 31)).alloc (.cells #[.int .u64 x0, .int .u64 x1, .int .u64 x2, .int .u64 x3, .int .u64 x4, .int .u64 x5, .int .i64 0] 64)) (w.heap.size + 1 + 1 + 1) ⟨x0, x1, x2, x3, x4, x5⟩ 0) := own2c w _ _ _ _
  have D0 : Hid (Door w ((((w.alloc (.cells #[.int .u64 x0, .int .u64 x1, .int .u64 x2, .int .u64 x3, .int .u64 x4, .int .u64 x5] 24)).alloc (.cells #[.int .i64 0, .int .i64 0, .int .i64 0, .bool false, .bool false, .bool false, .int .u64 0, .int .i64 0, .int .u64 0, .int .i64 0, .int .i64 0, .int .i64 0, .int .i64 0] 30)).alloc (.cells #[.int .i64 0] 31)).alloc (.cells #[.int .u64 x0, .int .u64 x1, .int .u64 x2, .int .u64 x3, .int .u64 x4, .int .u64 x5, .int .i64 0] 64))) := Door.made w _ _
  go_enter_defers Try.func9, Try.ntmps9
  go_wp2_with fail
  refine (CA.out _ _ R0.out).mono ?_
  rintro e u1 ⟨rfl, k1⟩
  exact read_door w _ _ (D0.out.kb k1) rfl rfl
set_option maxHeartbeats 1000000 in
theorem read_no2 (W : Wd) (hw : W.wf) (c : Cl) (n : Nat) (hc : callV W = some (c, n)) (hn : n < 6) (hz : ¬ restZ W n) (w : World) : Calls Try.prog 9 #[W.val] w fun e w' => e = .returned (.tuple #[Cl.zero.val, .int .i64 13]) ∧ Below w.heap.size w w' := by
  have CA : Hid (∀ (b : Nat) (w : World), IsR w b W 0 → Calls Try.prog 22 #[.pointer (some ⟨b, 0, none⟩)] w fun e w' => e = .returned c.val ∧ IsR w' b W n ∧ Kb b w w') := fun b w h => call_some b W hw c n hc w h
  have EN : Hid (∀ (b : Nat) (w : World), IsR w b W n → Calls Try.prog 23 #[.pointer (some ⟨b, 0, none⟩)] w fun e w' => e = .panicked [refv] ∧ Kb b w w') := fun b w h => end_no b W hw n hn hz w h
  clear hw hc hz
  obtain ⟨c0, c1, c2, c3, c4, c5, c6, c7, c8, c9, c10, c11, c12⟩ := c
  have hmf : ∀ (fn : Fn) (first cap : Array Value) (w : World), (Instr.makeFunc fn first cap).run Try.prog w = .ok (.func fn first cap) w := fun _ _ _ _ => rfl
  obtain ⟨x0, x1, x2, x3, x4, x5⟩ := W
  have R0 : Hid (IsR ((((w.alloc (.cells #[.int .u64 x0, .int .u64 x1, .int .u64 x2, .int .u64 x3, .int .u64 x4, .int .u64 x5] 24)).alloc (.cells #[.int .i64 0, .int .i64 0, .int .i64 0, .bool false, .bool false, .bool false, .int .u64 0, .int .i64 0, .int .u64 0, .int .i64 0, .int .i64 0, .int .i64 0, .int .i64 0] 30)).alloc (.cells #[.int .i64 0] 31)).alloc (.cells #[.int .u64 x0, .int .u64 x1, .int .u64 x2, .int .u64 x3, .int .u64 x4, .int .u64 x5, .int .i64 0] 64)) (w.heap.size + 1 + 1 + 1) ⟨x0, x1, x2, x3, x4, x5⟩ 0) := own2c w _ _ _ _
  have D0 : Hid (Door w ((((w.alloc (.cells #[.int .u64 x0, .int .u64 x1, .int .u64 x2, .int .u64 x3, .int .u64 x4, .int .u64 x5] 24)).alloc (.cells #[.int .i64 0, .int .i64 0, .int .i64 0, .bool false, .bool false, .bool false, .int .u64 0, .int .i64 0, .int .u64 0, .int .i64 0, .int .i64 0, .int .i64 0, .int .i64 0] 30)).alloc (.cells #[.int .i64 0] 31)).alloc (.cells #[.int .u64 x0, .int .u64 x1, .int .u64 x2, .int .u64 x3, .int .u64 x4, .int .u64 x5, .int .i64 0] 64))) := Door.made w _ _
  go_enter_defers Try.func9, Try.ntmps9
  go_wp2_with fail
  refine (CA.out _ _ R0.out).mono ?_
  rintro e u1 ⟨rfl, h1, k1⟩
  have A1 : Hid (IsR u1 (w.heap.size + 1 + 1 + 1) ⟨x0, x1, x2, x3, x4, x5⟩ n) := h1
  have D1 : Hid (Door w u1) := D0.out.kb k1
  clear h1 k1 R0 D0
  rename_i hcont
  refine hcont _ _ ?_
  refine store_pat (w.heap.size + 1) 0 #[.int .i64 c0, .int .i64 c1, .int .i64 c2, .bool c3, .bool c4, .bool c5, .int .u64 c6, .int .i64 c7, .int .u64 c8, .int .i64 c9, .int .i64 c10, .int .i64 c11, .int .i64 c12] rfl rfl D1.out.f call_info (by simp [Value.oneCell']) ?_
  have A2 : Hid (IsR (u1.setCells (w.heap.size + 1) 0 (#[.int .i64 c0, .int .i64 c1, .int .i64 c2, .bool c3, .bool c4, .bool c5, .int .u64 c6, .int .i64 c7, .int .u64 c8, .int .i64 c9, .int .i64 c10, .int .i64 c11, .int .i64 c12] : Array Value).toList) (w.heap.size + 1 + 1 + 1) ⟨x0, x1, x2, x3, x4, x5⟩ n) := A1.out.scs (by omega) _ _
  have D2 : Hid (Door w (u1.setCells (w.heap.size + 1) 0 (#[.int .i64 c0, .int .i64 c1, .int .i64 c2, .bool c3, .bool c4, .bool c5, .int .u64 c6, .int .i64 c7, .int .u64 c8, .int .i64 c9, .int .i64 c10, .int .i64 c11, .int .i64 c12] : Array Value).toList)) := D1.out.scs _
  have G2 : Hid ((u1.setCells (w.heap.size + 1) 0 (#[.int .i64 c0, .int .i64 c1, .int .i64 c2, .bool c3, .bool c4, .bool c5, .int .u64 c6, .int .i64 c7, .int .u64 c8, .int .i64 c9, .int .i64 c10, .int .i64 c11, .int .i64 c12] : Array Value).toList).rangeAt (w.heap.size + 1) 0 [.int .i64 c0, .int .i64 c1, .int .i64 c2, .bool c3, .bool c4, .bool c5, .int .u64 c6, .int .i64 c7, .int .u64 c8, .int .i64 c9, .int .i64 c10, .int .i64 c11, .int .i64 c12]) := World.rangeAt_setCells_same _ _ 0 _ D1.out.f
  generalize u1.setCells (w.heap.size + 1) 0 (#[.int .i64 c0, .int .i64 c1, .int .i64 c2, .bool c3, .bool c4, .bool c5, .int .u64 c6, .int .i64 c7, .int .u64 c8, .int .i64 c9, .int .i64 c10, .int .i64 c11, .int .i64 c12] : Array Value).toList = V at A2 D2 G2 ⊢
  clear A1 D1
  go_wp2_with fail
  refine (EN.out _ _ A2.out).mono ?_
  rintro e u2 ⟨rfl, k1⟩
  exact read_door w _ _ (D2.out.kb k1) rfl rfl
set_option maxHeartbeats 1000000 in
theorem read_ok (W : Wd) (hw : W.wf) (c : Cl) (n : Nat) (hc : callV W = some (c, n)) (hn : n < 6) (hz : restZ W n) (w : World) : Calls Try.prog 9 #[W.val] w fun e w' => e = .returned (.tuple #[c.val, .int .i64 0]) ∧ Below w.heap.size w w' := by
  have CA : Hid (∀ (b : Nat) (w : World), IsR w b W 0 → Calls Try.prog 22 #[.pointer (some ⟨b, 0, none⟩)] w fun e w' => e = .returned c.val ∧ IsR w' b W n ∧ Kb b w w') := fun b w h => call_some b W hw c n hc w h
  have EN : Hid (∀ (b : Nat) (w : World), IsR w b W n → Calls Try.prog 23 #[.pointer (some ⟨b, 0, none⟩)] w fun e w' => e = .returned (.tuple #[]) ∧ Kb b w w') := fun b w h => end_yes b W n hn hz w h
  clear hw hc hz
  obtain ⟨c0, c1, c2, c3, c4, c5, c6, c7, c8, c9, c10, c11, c12⟩ := c
  have hmf : ∀ (fn : Fn) (first cap : Array Value) (w : World), (Instr.makeFunc fn first cap).run Try.prog w = .ok (.func fn first cap) w := fun _ _ _ _ => rfl
  obtain ⟨x0, x1, x2, x3, x4, x5⟩ := W
  have R0 : Hid (IsR ((((w.alloc (.cells #[.int .u64 x0, .int .u64 x1, .int .u64 x2, .int .u64 x3, .int .u64 x4, .int .u64 x5] 24)).alloc (.cells #[.int .i64 0, .int .i64 0, .int .i64 0, .bool false, .bool false, .bool false, .int .u64 0, .int .i64 0, .int .u64 0, .int .i64 0, .int .i64 0, .int .i64 0, .int .i64 0] 30)).alloc (.cells #[.int .i64 0] 31)).alloc (.cells #[.int .u64 x0, .int .u64 x1, .int .u64 x2, .int .u64 x3, .int .u64 x4, .int .u64 x5, .int .i64 0] 64)) (w.heap.size + 1 + 1 + 1) ⟨x0, x1, x2, x3, x4, x5⟩ 0) := own2c w _ _ _ _
  have D0 : Hid (Door w ((((w.alloc (.cells #[.int .u64 x0, .int .u64 x1, .int .u64 x2, .int .u64 x3, .int .u64 x4, .int .u64 x5] 24)).alloc (.cells #[.int .i64 0, .int .i64 0, .int .i64 0, .bool false, .bool false, .bool false, .int .u64 0, .int .i64 0, .int .u64 0, .int .i64 0, .int .i64 0, .int .i64 0, .int .i64 0] 30)).alloc (.cells #[.int .i64 0] 31)).alloc (.cells #[.int .u64 x0, .int .u64 x1, .int .u64 x2, .int .u64 x3, .int .u64 x4, .int .u64 x5, .int .i64 0] 64))) := Door.made w _ _
  go_enter_defers Try.func9, Try.ntmps9
  go_wp2_with fail
  refine (CA.out _ _ R0.out).mono ?_
  rintro e u1 ⟨rfl, h1, k1⟩
  have A1 : Hid (IsR u1 (w.heap.size + 1 + 1 + 1) ⟨x0, x1, x2, x3, x4, x5⟩ n) := h1
  have D1 : Hid (Door w u1) := D0.out.kb k1
  clear h1 k1 R0 D0
  rename_i hcont
  refine hcont _ _ ?_
  refine store_pat (w.heap.size + 1) 0 #[.int .i64 c0, .int .i64 c1, .int .i64 c2, .bool c3, .bool c4, .bool c5, .int .u64 c6, .int .i64 c7, .int .u64 c8, .int .i64 c9, .int .i64 c10, .int .i64 c11, .int .i64 c12] rfl rfl D1.out.f call_info (by simp [Value.oneCell']) ?_
  have A2 : Hid (IsR (u1.setCells (w.heap.size + 1) 0 (#[.int .i64 c0, .int .i64 c1, .int .i64 c2, .bool c3, .bool c4, .bool c5, .int .u64 c6, .int .i64 c7, .int .u64 c8, .int .i64 c9, .int .i64 c10, .int .i64 c11, .int .i64 c12] : Array Value).toList) (w.heap.size + 1 + 1 + 1) ⟨x0, x1, x2, x3, x4, x5⟩ n) := A1.out.scs (by omega) _ _
  have D2 : Hid (Door w (u1.setCells (w.heap.size + 1) 0 (#[.int .i64 c0, .int .i64 c1, .int .i64 c2, .bool c3, .bool c4, .bool c5, .int .u64 c6, .int .i64 c7, .int .u64 c8, .int .i64 c9, .int .i64 c10, .int .i64 c11, .int .i64 c12] : Array Value).toList)) := D1.out.scs _
  have G2 : Hid ((u1.setCells (w.heap.size + 1) 0 (#[.int .i64 c0, .int .i64 c1, .int .i64 c2, .bool c3, .bool c4, .bool c5, .int .u64 c6, .int .i64 c7, .int .u64 c8, .int .i64 c9, .int .i64 c10, .int .i64 c11, .int .i64 c12] : Array Value).toList).rangeAt (w.heap.size + 1) 0 [.int .i64 c0, .int .i64 c1, .int .i64 c2, .bool c3, .bool c4, .bool c5, .int .u64 c6, .int .i64 c7, .int .u64 c8, .int .i64 c9, .int .i64 c10, .int .i64 c11, .int .i64 c12]) := World.rangeAt_setCells_same _ _ 0 _ D1.out.f
  generalize u1.setCells (w.heap.size + 1) 0 (#[.int .i64 c0, .int .i64 c1, .int .i64 c2, .bool c3, .bool c4, .bool c5, .int .u64 c6, .int .i64 c7, .int .u64 c8, .int .i64 c9, .int .i64 c10, .int .i64 c11, .int .i64 c12] : Array Value).toList = V at A2 D2 G2 ⊢
  clear A1 D1
  go_wp2_with fail
  refine (EN.out _ _ A2.out).mono ?_
  rintro e u2 ⟨rfl, k1⟩
  have D3 : Hid (Door w u2) := D2.out.kb k1
  have G3 : Hid (u2.rangeAt (w.heap.size + 1) 0 [.int .i64 c0, .int .i64 c1, .int .i64 c2, .bool c3, .bool c4, .bool c5, .int .u64 c6, .int .i64 c7, .int .u64 c8, .int .i64 c9, .int .i64 c10, .int .i64 c11, .int .i64 c12]) := fun j v hv => (k1.cell (by have := D2.out.l; omega) (by omega)).trans (G2.out j v hv)
  clear k1 A2 D2 G2
  go_upto_region 5 with fail
  refine wp_region_lit ?_
  refine load_pat (w.heap.size + 1) 0 [.int .i64 c0, .int .i64 c1, .int .i64 c2, .bool c3, .bool c4, .bool c5, .int .u64 c6, .int .i64 c7, .int .u64 c8, .int .i64 c9, .int .i64 c10, .int .i64 c11, .int .i64 c12] _ rfl G3.out Try.underlying30 rfl call_info ?_
  refine store_pat (w.heap.size + 1) 0 #[.int .i64 c0, .int .i64 c1, .int .i64 c2, .bool c3, .bool c4, .bool c5, .int .u64 c6, .int .i64 c7, .int .u64 c8, .int .i64 c9, .int .i64 c10, .int .i64 c11, .int .i64 c12] rfl rfl D3.out.f call_info (by simp [Value.oneCell']) ?_
  have D4 : Hid (Door w (u2.setCells (w.heap.size + 1) 0 (#[.int .i64 c0, .int .i64 c1, .int .i64 c2, .bool c3, .bool c4, .bool c5, .int .u64 c6, .int .i64 c7, .int .u64 c8, .int .i64 c9, .int .i64 c10, .int .i64 c11, .int .i64 c12] : Array Value).toList)) := D3.out.scs _
  have G4 : Hid ((u2.setCells (w.heap.size + 1) 0 (#[.int .i64 c0, .int .i64 c1, .int .i64 c2, .bool c3, .bool c4, .bool c5, .int .u64 c6, .int .i64 c7, .int .u64 c8, .int .i64 c9, .int .i64 c10, .int .i64 c11, .int .i64 c12] : Array Value).toList).rangeAt (w.heap.size + 1) 0 [.int .i64 c0, .int .i64 c1, .int .i64 c2, .bool c3, .bool c4, .bool c5, .int .u64 c6, .int .i64 c7, .int .u64 c8, .int .i64 c9, .int .i64 c10, .int .i64 c11, .int .i64 c12]) := World.rangeAt_setCells_same _ _ 0 _ D3.out.f
  generalize u2.setCells (w.heap.size + 1) 0 (#[.int .i64 c0, .int .i64 c1, .int .i64 c2, .bool c3, .bool c4, .bool c5, .int .u64 c6, .int .i64 c7, .int .u64 c8, .int .i64 c9, .int .i64 c10, .int .i64 c11, .int .i64 c12] : Array Value).toList = V4 at D4 G4 ⊢
  clear D3 G3
  have ce : V4.cell? ⟨w.heap.size + 1 + 1, 0, none⟩ = some (.int .i64 0) := D4.out.e
  have cz : V4.frozen? ⟨w.heap.size + 1 + 1, 0, none⟩ = false := D4.out.z
  have cl : w.heap.size + 1 + 1 < V4.heap.size := D4.out.l
  have G5 : Hid ((V4.setCell ⟨w.heap.size + 1 + 1, 0, none⟩ (.int .i64 0)).rangeAt (w.heap.size + 1) 0 [.int .i64 c0, .int .i64 c1, .int .i64 c2, .bool c3, .bool c4, .bool c5, .int .u64 c6, .int .i64 c7, .int .u64 c8, .int .i64 c9, .int .i64 c10, .int .i64 c11, .int .i64 c12]) := World.rangeAt_setCells_apart G4.out (w.heap.size + 1 + 1) 0 [.int .i64 0] (Or.inl (by omega))
  have E5 : Hid ((V4.setCell ⟨w.heap.size + 1 + 1, 0, none⟩ (.int .i64 0)).cell? ⟨w.heap.size + 1 + 1, 0, none⟩ = some (.int .i64 0)) := (range_cell (World.rangeAt_setCells_same V4 (w.heap.size + 1 + 1) 0 [.int .i64 0] (fun j hj => by
    obtain rfl : j = 0 := by simp at hj; omega
    exact ⟨by rw [Nat.zero_add, ce]; rfl, cz⟩)))
  have L5 : Hid (Below w.heap.size w (V4.setCell ⟨w.heap.size + 1 + 1, 0, none⟩ (.int .i64 0))) := D4.out.b.setCell (by show w.heap.size ≤ w.heap.size + 1 + 1; omega) _
  go_wp2_with fail
  exact read_end w _ [.int .i64 c0, .int .i64 c1, .int .i64 c2, .bool c3, .bool c4, .bool c5, .int .u64 c6, .int .i64 c7, .int .u64 c8, .int .i64 c9, .int .i64 c10, .int .i64 c11, .int .i64 c12] rfl _ _ rfl rfl G5.out E5.out ⟨rfl, L5.out⟩
end Go.Proofs.Ytccbacjiiffheaa
