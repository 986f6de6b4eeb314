/- Walk, where it is refused ahead of its entries. -/
import Derived.Test.YtaebihgegiddnaaDoorW9
namespace Go.Proofs.YtaebihgegiddnaaDoor
open Go.ChangeShapes Go.WideShapes Go.ChangeAt Go.RowKit Go.Maps
set_option linter.unusedSimpArgs false
set_option linter.unusedVariables false
set_option maxRecDepth 8000

/-- the variables of Walk's results stand in blocks of their own, as they were made -/
structure Door (w W : World) : Prop where
  f : W.there (w.heap.size + 1) 0 7
  g : W.there (w.heap.size + 1 + 1) 0 2
  e : W.cell? ⟨w.heap.size + 1 + 1 + 1, 0, none⟩ = some (.int .i64 0)
  z : W.frozen? ⟨w.heap.size + 1 + 1 + 1, 0, none⟩ = false
  l : w.heap.size + 1 + 1 + 1 < W.heap.size
  b : Below w.heap.size w W
theorem there_below {W W' : World} {b o n : Nat} (h : W.there b o n) (hb : Below W.heap.size W W') (l : b < W.heap.size) : W'.there b o n := fun j hj => by
  obtain ⟨h1, h2⟩ := h j hj
  exact ⟨by rw [hb.cell (p := ⟨b, o + j, none⟩) l]; exact h1, by rw [hb.frozen (p := ⟨b, o + j, none⟩) l]; exact h2⟩
theorem Door.next {w W W' : World} (h : Door w W) (hb : Below W.heap.size W W') : Door w W' :=
  ⟨there_below h.f hb (by have := h.l; omega), there_below h.g hb (by have := h.l; omega), (hb.cell (p := ⟨w.heap.size + 1 + 1 + 1, 0, none⟩) h.l).trans h.e, (hb.frozen (p := ⟨w.heap.size + 1 + 1 + 1, 0, none⟩) h.l).trans h.z, Nat.lt_of_lt_of_le h.l hb.size, below_then h.b hb⟩
theorem there_of_block {w : World} {b : Nat} {C : Array Value} {t : TypeId} (h : w.heap[b]? = some (.cells C t (0, 0))) : w.there b 0 C.size := fun j hj => by
  rw [Nat.zero_add]
  exact ⟨by rw [Go.Joins.cell_of_block h j, Array.getElem?_eq_getElem hj]; rfl, Go.Joins.unfrozen_of_block h j⟩
theorem Door.made (w : World) (a : Obj) : Door w ((((w.alloc a).alloc (.cells #[.int .i64 0, .bool false, .bool false, .bool false, .bool false, .bool false, .bool false] 40)).alloc (.cells #[.int .u64 0, .int .i64 0] 42)).alloc (.cells #[.int .i64 0] 43)) := by
  have h1 := own3a (w.alloc a) (.cells #[.int .i64 0, .bool false, .bool false, .bool false, .bool false, .bool false, .bool false] 40) (.cells #[.int .u64 0, .int .i64 0] 42) (.cells #[.int .i64 0] 43)
  have h2 := own3b (w.alloc a) (.cells #[.int .i64 0, .bool false, .bool false, .bool false, .bool false, .bool false, .bool false] 40) (.cells #[.int .u64 0, .int .i64 0] 42) (.cells #[.int .i64 0] 43)
  have h3 := own3c (w.alloc a) (.cells #[.int .i64 0, .bool false, .bool false, .bool false, .bool false, .bool false, .bool false] 40) (.cells #[.int .u64 0, .int .i64 0] 42) (.cells #[.int .i64 0] 43)
  rw [World.size_alloc] at h1 h2 h3
  exact ⟨there_of_block h1, there_of_block h2, Go.Joins.cell_of_block h3 0, Go.Joins.unfrozen_of_block h3 0, by simp, (((((Below.refl _ _).alloc (by simp) _).alloc (by simp; try omega) _).alloc (by simp; try omega) _).alloc (by simp; try omega) _)⟩
theorem range_cell {w : World} {b : Nat} {v : Value} (h : w.rangeAt b 0 [v]) : w.cell? ⟨b, 0, none⟩ = some v := by have := h 0 v rfl; rwa [Nat.zero_add] at this
theorem load_errno (W : World) (b : Nat) (er : Int) (h : W.cell? ⟨b, 0, none⟩ = some (.int .i64 er)) : (loadVar 43 ⟨b, 0, none⟩).run Tryd.prog W = .ok (.int .i64 er) W := by
  simp [loadVar, go_sem, h]
theorem results_cell3 {fn : Func} {p q r : Tmp} {t1 t2 t3 : TypeId} (h : fn.results = #[.cell p t1, .cell q t2, .cell r t3]) (tmps : Array Value) (P : Program) (w : World) (a b c : Addr) (x y z : Value)
    (ha : tmps.getD p undef = .pointer (some a)) (hb : tmps.getD q undef = .pointer (some b)) (hc : tmps.getD r undef = .pointer (some c))
    (hx : (loadVar t1 a).run P w = .ok x w) (hy : (loadVar t2 b).run P w = .ok y w) (hz : (loadVar t3 c).run P w = .ok z w) :
    (results fn tmps).run P w = .ok (.tuple #[x, y, z]) w := by
  simp only [results, h]
  have e1 : ∀ W : World, (asAddr (Value.pointer (some a))).run P W = .ok a W := fun _ => rfl
  have e2 : ∀ W : World, (asAddr (Value.pointer (some b))).run P W = .ok b W := fun _ => rfl
  have e3 : ∀ W : World, (asAddr (Value.pointer (some c))).run P W = .ok c W := fun _ => rfl
  simp at ha hb hc
  simp [Sem.run_bind, Result.andThen, ha, hb, hc, e1, e2, e3, hx, hy, hz]
set_option maxHeartbeats 400000 in
theorem walk_door (w W : World) (ad cd er : Int) (tmps : Array Value) (h : Door w W)
    (h8 : tmps.getD 8 undef = .pointer (some ⟨w.heap.size + 1, 0, none⟩)) (h9 : tmps.getD 9 undef = .pointer (some ⟨w.heap.size + 1 + 1, 0, none⟩)) (h10 : tmps.getD 10 undef = .pointer (some ⟨w.heap.size + 1 + 1 + 1, 0, none⟩)) :
    bodyPostD Tryd.prog Tryd.f7 (fun e w' => e = .returned (.tuple #[.agg zfound.toArray, .agg #[.int .u64 ad, .int .i64 cd], .int .i64 er]) ∧ Below w.heap.size w w') (Exit.panic [refv ad cd er])
      { tmps := tmps, defers := [{ target := Target.fn (Fn.func 17) #[.pointer (some ⟨w.heap.size + 1, 0, none⟩), .pointer (some ⟨w.heap.size + 1 + 1, 0, none⟩), .pointer (some ⟨w.heap.size + 1 + 1 + 1, 0, none⟩)], args := #[] }] } W := by
  refine leaves_cons (f := 17) (args := #[.pointer (some ⟨w.heap.size + 1, 0, none⟩), .pointer (some ⟨w.heap.size + 1 + 1, 0, none⟩), .pointer (some ⟨w.heap.size + 1 + 1 + 1, 0, none⟩)]) (by simp) (by simp [go_sem]) ?_
  refine (catch_ref (w.heap.size + 1) (w.heap.size + 1 + 1) (w.heap.size + 1 + 1 + 1) ad cd er W h.f h.g h.e h.z (by have := h.l; omega) (by have := h.l; omega) h.l (by omega) (by omega) (by omega)).mono ?_
  rintro e u' w'' ⟨rfl, rfl, r1, r2, r3, hk⟩
  have hb : Below w.heap.size w w'' := h.b.trans (hk.below (fun j hj => ⟨Nat.lt_of_lt_of_le hj h.b.size, by omega, by omega, by omega⟩))
  have hr : (results Tryd.f7 tmps).run Tryd.prog w'' = .ok (.tuple #[.agg zfound.toArray, .agg #[.int .u64 ad, .int .i64 cd], .int .i64 er]) w'' :=
    results_cell3 Tryd.results7 tmps Tryd.prog w'' _ _ _ _ _ _ h8 h9 h10 (run_loadVar_mid w'' _ 0 40 zfound _ r1 Tryd.underlying40 rfl found_info) (run_loadVar_mid w'' _ 0 42 _ _ r2 Tryd.underlying42 rfl fault_info) (load_errno w'' _ er (range_cell r3))
  exact ⟨_, hr, rfl, hb⟩
set_option maxHeartbeats 1000000 in
theorem walk_arg (rb : Nat) (root addr : Int) (x u f : Bool) (hc : Hid (∀ w : World, Calls Tryd.prog 15 #[.int .u64 addr] w fun e w' => e = .returned (.bool false) ∧ w' = w)) (w : World) :
    Calls Tryd.prog 7 #[.pointer (some ⟨rb, 0, none⟩), .int .i64 root, .int .u64 addr, .agg #[.bool x, .bool u, .bool f]] w fun e w' => e = .returned (.tuple #[.agg zfound.toArray, .agg #[.int .u64 0, .int .i64 0], .int .i64 1]) ∧ Below w.heap.size w w' := by
  have hmf : ∀ (fn : Fn) (first cap : Array Value) (w : World), (Instr.makeFunc fn first cap).run Tryd.prog w = .ok (.func fn first cap) w := fun _ _ _ _ => rfl
  go_enter_defers Tryd.func7, Tryd.ntmps7
  go_wp2_with fail
  refine (hc.out _).mono ?_
  rintro e w1 ⟨rfl, rfl⟩
  go_wp2_with fail
  exact walk_door w _ 0 0 1 _ (Door.made w _) rfl rfl rfl
set_option maxHeartbeats 1000000 in
theorem walk_bus (rb : Nat) (root addr : Int) (x u f : Bool) (hc : Hid (∀ w : World, Calls Tryd.prog 15 #[.int .u64 addr] w fun e w' => e = .returned (.bool true) ∧ w' = w)) (w : World)
    (hh : Hid (∀ W : World, Below w.heap.size w W → Calls Tryd.prog 18 #[.pointer (some ⟨rb, 0, none⟩), .int .i64 root] W fun e w' => e = .returned (.bool false) ∧ Below W.heap.size W w')) :
    Calls Tryd.prog 7 #[.pointer (some ⟨rb, 0, none⟩), .int .i64 root, .int .u64 addr, .agg #[.bool x, .bool u, .bool f]] w fun e w' => e = .returned (.tuple #[.agg zfound.toArray, .agg #[.int .u64 0, .int .i64 0], .int .i64 2]) ∧ Below w.heap.size w w' := by
  have hmf : ∀ (fn : Fn) (first cap : Array Value) (w : World), (Instr.makeFunc fn first cap).run Tryd.prog w = .ok (.func fn first cap) w := fun _ _ _ _ => rfl
  go_enter_defers Tryd.func7, Tryd.ntmps7
  go_wp2_with fail
  refine (hc.out _).mono ?_
  rintro e w1 ⟨rfl, rfl⟩
  go_wp2_with fail
  refine (hh.out _ (Door.made w _).b).mono ?_
  rintro e w2 ⟨rfl, hb⟩
  have D : Hid (Door w w2) := (Door.made w _).next hb
  clear hb
  go_wp2_with fail
  exact walk_door w _ 0 0 2 _ D.out rfl rfl rfl
end Go.Proofs.YtaebihgegiddnaaDoor
