/- spell: the words of a call. -/
import Derived.Test.YtccbacjiiffheaaCN
import Derived.BigRegion
namespace Go.Proofs.Ytccbacjiiffheaa
open Go.ChangeShapes Go.WideShapes Go.ChangeAt Go.RowKit Go.Maps
set_option linter.unusedSimpArgs false
set_option linter.unusedVariables false

theorem words_info : (Try.prog.info? 24).map (·.size) = some 6 := by kernel_rfl
set_option maxHeartbeats 400000 in
theorem bit_any (b : Bool) (n : Int) (w : World) : Calls Try.prog 39 #[.bool b, .int .u64 n] w fun e w' => e = .returned (.int .u64 (bitV b n)) ∧ w' = w := by
  cases b
  · go_enter Try.func39, Try.ntmps39
    go_wp2_with fail
    go_returns
    exact ⟨rfl, rfl⟩
  · go_enter Try.func39, Try.ntmps39
    go_wp2_with fail
    go_returns
    exact ⟨rfl, rfl⟩
theorem uw_wrap (x : Int) : IntKind.u64.wrap x = uw x := by rw [IntKind.wrap_u64]; rfl
theorem w64_wrap (x : Int) : wrap64 x = IntKind.i64.wrap x := by rw [IntKind.wrap_i64, wrap64]
theorem below_drewN0 {n m : Nat} {w W : World} (h : Below n w W) : Below n w (W.drewN m) := ⟨h.os, h.tape, h.output, h.size, h.block⟩
theorem below_scs {n b : Nat} {w X : World} (h : Below n w X) (hb : n ≤ b) : ∀ (vs : List Value) (o : Nat), Below n w (X.setCells b o vs) := fun vs => by
  induction vs generalizing X with
  | nil => intro o; exact h
  | cons v r ih => intro o; rw [World.setCells]; exact ih (h.setCell hb v) _
theorem spell_end (w V : World) (x0 x1 x2 x3 x4 x5 : Int) (tmps : Array Value) (hz : Blk V (w.heap.size + 1) [.int .u64 0, .int .u64 0, .int .u64 0, .int .u64 0, .int .u64 0, .int .u64 0] 24) (hb : Below w.heap.size w (V.setCells (w.heap.size + 1) 0 [.int .u64 x0, .int .u64 x1, .int .u64 x2, .int .u64 x3, .int .u64 x4, .int .u64 x5])) :
    tmps.getD 2 undef = .pointer (some ⟨w.heap.size + 1, 0, none⟩) → bodyPost Try.prog Try.f26 (fun e w' => e = .returned (.agg #[.int .u64 x0, .int .u64 x1, .int .u64 x2, .int .u64 x3, .int .u64 x4, .int .u64 x5]) ∧ Below w.heap.size w w') Exit.ret { tmps := tmps, defers := [] } (V.setCells (w.heap.size + 1) 0 [.int .u64 x0, .int .u64 x1, .int .u64 x2, .int .u64 x3, .int .u64 x4, .int .u64 x5]) := by
  intro h2
  have hr := run_loadVar_mid (P := Try.prog) (V.setCells (w.heap.size + 1) 0 [.int .u64 x0, .int .u64 x1, .int .u64 x2, .int .u64 x3, .int .u64 x4, .int .u64 x5]) (w.heap.size + 1) 0 24 [.int .u64 x0, .int .u64 x1, .int .u64 x2, .int .u64 x3, .int .u64 x4, .int .u64 x5] _ (World.rangeAt_setCells_same _ (w.heap.size + 1) 0 [.int .u64 x0, .int .u64 x1, .int .u64 x2, .int .u64 x3, .int .u64 x4, .int .u64 x5] (show World.there V (w.heap.size + 1) 0 6 from hz.there)) Try.underlying24 rfl words_info
  refine bodyPost_ret (v := .agg #[.int .u64 x0, .int .u64 x1, .int .u64 x2, .int .u64 x3, .int .u64 x4, .int .u64 x5]) ?_ rfl ⟨rfl, hb⟩
  exact results_one Try.results26 _ _ _ _ _ h2 hr
set_option maxHeartbeats 4000000 in
theorem spell2 (c1 c2 c6 c7 c8 c9 c10 c11 c12 : Int) (c3 c4 c5 : Bool)  (w : World) : Calls Try.prog 26 #[.agg #[.int .i64 2, .int .i64 c1, .int .i64 c2, .bool c3, .bool c4, .bool c5, .int .u64 c6, .int .i64 c7, .int .u64 c8, .int .i64 c9, .int .i64 c10, .int .i64 c11, .int .i64 c12]] w fun e w' => e = .returned (.agg #[.int .u64 2, .int .u64 (IntKind.u64.wrap c1), .int .u64 (IntKind.u64.wrap (wrap64 (c2 - c1))), .int .u64 0, .int .u64 0, .int .u64 0]) ∧ Below w.heap.size w w' := by
  have ZR : ∀ n : Nat, Hid (Blk (((w.alloc (.cells #[.int .i64 2, .int .i64 c1, .int .i64 c2, .bool c3, .bool c4, .bool c5, .int .u64 c6, .int .i64 c7, .int .u64 c8, .int .i64 c9, .int .i64 c10, .int .i64 c11, .int .i64 c12] 30)).alloc (.cells #[.int .u64 0, .int .u64 0, .int .u64 0, .int .u64 0, .int .u64 0, .int .u64 0] 24)).drewN n) (w.heap.size + 1) [.int .u64 0, .int .u64 0, .int .u64 0, .int .u64 0, .int .u64 0, .int .u64 0] 24) := fun n => by
    have := Blk.made (w.alloc (.cells #[.int .i64 2, .int .i64 c1, .int .i64 c2, .bool c3, .bool c4, .bool c5, .int .u64 c6, .int .i64 c7, .int .u64 c8, .int .i64 c9, .int .i64 c10, .int .i64 c11, .int .i64 c12] 30)) [.int .u64 0, .int .u64 0, .int .u64 0, .int .u64 0, .int .u64 0, .int .u64 0] 24
    rw [World.size_alloc] at this; exact this
  have BR : ∀ n : Nat, Hid (Below w.heap.size w (World.setCells (((w.alloc (.cells #[.int .i64 2, .int .i64 c1, .int .i64 c2, .bool c3, .bool c4, .bool c5, .int .u64 c6, .int .i64 c7, .int .u64 c8, .int .i64 c9, .int .i64 c10, .int .i64 c11, .int .i64 c12] 30)).alloc (.cells #[.int .u64 0, .int .u64 0, .int .u64 0, .int .u64 0, .int .u64 0, .int .u64 0] 24)).drewN n) (w.heap.size + 1) 0 [.int .u64 2, .int .u64 (IntKind.u64.wrap c1), .int .u64 (IntKind.u64.wrap (wrap64 (c2 - c1))), .int .u64 0, .int .u64 0, .int .u64 0])) := fun n => below_scs (below_drewN0 (Go.Joins.below_alloc2 _ _ _)) (by omega) _ _
  go_enter Try.func26, Try.ntmps26
  go_wp2_with fail
  go_quiet (fail)
  go_wp2_with fail
  go_quiet (fail)
  go_wp2_with fail
  exact spell_end w _ _ _ _ _ _ _ _ (ZR _).out (BR _).out rfl
set_option maxHeartbeats 4000000 in
theorem spell4 (c1 c2 c6 c7 c8 c9 c10 c11 c12 : Int) (c3 c4 c5 : Bool)  (w : World) : Calls Try.prog 26 #[.agg #[.int .i64 4, .int .i64 c1, .int .i64 c2, .bool c3, .bool c4, .bool c5, .int .u64 c6, .int .i64 c7, .int .u64 c8, .int .i64 c9, .int .i64 c10, .int .i64 c11, .int .i64 c12]] w fun e w' => e = .returned (.agg #[.int .u64 4, .int .u64 (c6), .int .u64 (IntKind.u64.wrap c7), .int .u64 0, .int .u64 0, .int .u64 0]) ∧ Below w.heap.size w w' := by
  have ZR : ∀ n : Nat, Hid (Blk (((w.alloc (.cells #[.int .i64 4, .int .i64 c1, .int .i64 c2, .bool c3, .bool c4, .bool c5, .int .u64 c6, .int .i64 c7, .int .u64 c8, .int .i64 c9, .int .i64 c10, .int .i64 c11, .int .i64 c12] 30)).alloc (.cells #[.int .u64 0, .int .u64 0, .int .u64 0, .int .u64 0, .int .u64 0, .int .u64 0] 24)).drewN n) (w.heap.size + 1) [.int .u64 0, .int .u64 0, .int .u64 0, .int .u64 0, .int .u64 0, .int .u64 0] 24) := fun n => by
    have := Blk.made (w.alloc (.cells #[.int .i64 4, .int .i64 c1, .int .i64 c2, .bool c3, .bool c4, .bool c5, .int .u64 c6, .int .i64 c7, .int .u64 c8, .int .i64 c9, .int .i64 c10, .int .i64 c11, .int .i64 c12] 30)) [.int .u64 0, .int .u64 0, .int .u64 0, .int .u64 0, .int .u64 0, .int .u64 0] 24
    rw [World.size_alloc] at this; exact this
  have BR : ∀ n : Nat, Hid (Below w.heap.size w (World.setCells (((w.alloc (.cells #[.int .i64 4, .int .i64 c1, .int .i64 c2, .bool c3, .bool c4, .bool c5, .int .u64 c6, .int .i64 c7, .int .u64 c8, .int .i64 c9, .int .i64 c10, .int .i64 c11, .int .i64 c12] 30)).alloc (.cells #[.int .u64 0, .int .u64 0, .int .u64 0, .int .u64 0, .int .u64 0, .int .u64 0] 24)).drewN n) (w.heap.size + 1) 0 [.int .u64 4, .int .u64 (c6), .int .u64 (IntKind.u64.wrap c7), .int .u64 0, .int .u64 0, .int .u64 0])) := fun n => below_scs (below_drewN0 (Go.Joins.below_alloc2 _ _ _)) (by omega) _ _
  go_enter Try.func26, Try.ntmps26
  go_wp2_with fail
  go_quiet (fail)
  go_wp2_with fail
  go_quiet (fail)
  go_wp2_with fail
  exact spell_end w _ _ _ _ _ _ _ _ (ZR _).out (BR _).out rfl
set_option maxHeartbeats 4000000 in
theorem spell5 (c1 c2 c6 c7 c8 c9 c10 c11 c12 : Int) (c3 c4 c5 : Bool)  (w : World) : Calls Try.prog 26 #[.agg #[.int .i64 5, .int .i64 c1, .int .i64 c2, .bool c3, .bool c4, .bool c5, .int .u64 c6, .int .i64 c7, .int .u64 c8, .int .i64 c9, .int .i64 c10, .int .i64 c11, .int .i64 c12]] w fun e w' => e = .returned (.agg #[.int .u64 5, .int .u64 (c6), .int .u64 (IntKind.u64.wrap c7), .int .u64 (c8), .int .u64 0, .int .u64 0]) ∧ Below w.heap.size w w' := by
  have ZR : ∀ n : Nat, Hid (Blk (((w.alloc (.cells #[.int .i64 5, .int .i64 c1, .int .i64 c2, .bool c3, .bool c4, .bool c5, .int .u64 c6, .int .i64 c7, .int .u64 c8, .int .i64 c9, .int .i64 c10, .int .i64 c11, .int .i64 c12] 30)).alloc (.cells #[.int .u64 0, .int .u64 0, .int .u64 0, .int .u64 0, .int .u64 0, .int .u64 0] 24)).drewN n) (w.heap.size + 1) [.int .u64 0, .int .u64 0, .int .u64 0, .int .u64 0, .int .u64 0, .int .u64 0] 24) := fun n => by
    have := Blk.made (w.alloc (.cells #[.int .i64 5, .int .i64 c1, .int .i64 c2, .bool c3, .bool c4, .bool c5, .int .u64 c6, .int .i64 c7, .int .u64 c8, .int .i64 c9, .int .i64 c10, .int .i64 c11, .int .i64 c12] 30)) [.int .u64 0, .int .u64 0, .int .u64 0, .int .u64 0, .int .u64 0, .int .u64 0] 24
    rw [World.size_alloc] at this; exact this
  have BR : ∀ n : Nat, Hid (Below w.heap.size w (World.setCells (((w.alloc (.cells #[.int .i64 5, .int .i64 c1, .int .i64 c2, .bool c3, .bool c4, .bool c5, .int .u64 c6, .int .i64 c7, .int .u64 c8, .int .i64 c9, .int .i64 c10, .int .i64 c11, .int .i64 c12] 30)).alloc (.cells #[.int .u64 0, .int .u64 0, .int .u64 0, .int .u64 0, .int .u64 0, .int .u64 0] 24)).drewN n) (w.heap.size + 1) 0 [.int .u64 5, .int .u64 (c6), .int .u64 (IntKind.u64.wrap c7), .int .u64 (c8), .int .u64 0, .int .u64 0])) := fun n => below_scs (below_drewN0 (Go.Joins.below_alloc2 _ _ _)) (by omega) _ _
  go_enter Try.func26, Try.ntmps26
  go_wp2_with fail
  go_quiet (fail)
  go_wp2_with fail
  go_quiet (fail)
  go_wp2_with fail
  exact spell_end w _ _ _ _ _ _ _ _ (ZR _).out (BR _).out rfl
set_option maxHeartbeats 4000000 in
theorem spell7 (c1 c2 c6 c7 c8 c9 c10 c11 c12 : Int) (c3 c4 c5 : Bool)  (w : World) : Calls Try.prog 26 #[.agg #[.int .i64 7, .int .i64 c1, .int .i64 c2, .bool c3, .bool c4, .bool c5, .int .u64 c6, .int .i64 c7, .int .u64 c8, .int .i64 c9, .int .i64 c10, .int .i64 c11, .int .i64 c12]] w fun e w' => e = .returned (.agg #[.int .u64 7, .int .u64 (IntKind.u64.wrap c9), .int .u64 (IntKind.u64.wrap c1), .int .u64 0, .int .u64 0, .int .u64 0]) ∧ Below w.heap.size w w' := by
  have ZR : ∀ n : Nat, Hid (Blk (((w.alloc (.cells #[.int .i64 7, .int .i64 c1, .int .i64 c2, .bool c3, .bool c4, .bool c5, .int .u64 c6, .int .i64 c7, .int .u64 c8, .int .i64 c9, .int .i64 c10, .int .i64 c11, .int .i64 c12] 30)).alloc (.cells #[.int .u64 0, .int .u64 0, .int .u64 0, .int .u64 0, .int .u64 0, .int .u64 0] 24)).drewN n) (w.heap.size + 1) [.int .u64 0, .int .u64 0, .int .u64 0, .int .u64 0, .int .u64 0, .int .u64 0] 24) := fun n => by
    have := Blk.made (w.alloc (.cells #[.int .i64 7, .int .i64 c1, .int .i64 c2, .bool c3, .bool c4, .bool c5, .int .u64 c6, .int .i64 c7, .int .u64 c8, .int .i64 c9, .int .i64 c10, .int .i64 c11, .int .i64 c12] 30)) [.int .u64 0, .int .u64 0, .int .u64 0, .int .u64 0, .int .u64 0, .int .u64 0] 24
    rw [World.size_alloc] at this; exact this
  have BR : ∀ n : Nat, Hid (Below w.heap.size w (World.setCells (((w.alloc (.cells #[.int .i64 7, .int .i64 c1, .int .i64 c2, .bool c3, .bool c4, .bool c5, .int .u64 c6, .int .i64 c7, .int .u64 c8, .int .i64 c9, .int .i64 c10, .int .i64 c11, .int .i64 c12] 30)).alloc (.cells #[.int .u64 0, .int .u64 0, .int .u64 0, .int .u64 0, .int .u64 0, .int .u64 0] 24)).drewN n) (w.heap.size + 1) 0 [.int .u64 7, .int .u64 (IntKind.u64.wrap c9), .int .u64 (IntKind.u64.wrap c1), .int .u64 0, .int .u64 0, .int .u64 0])) := fun n => below_scs (below_drewN0 (Go.Joins.below_alloc2 _ _ _)) (by omega) _ _
  go_enter Try.func26, Try.ntmps26
  go_wp2_with fail
  go_quiet (fail)
  go_wp2_with fail
  go_quiet (fail)
  go_wp2_with fail
  exact spell_end w _ _ _ _ _ _ _ _ (ZR _).out (BR _).out rfl
set_option maxHeartbeats 4000000 in
theorem spell8 (c1 c2 c6 c7 c8 c9 c10 c11 c12 : Int) (c3 c4 c5 : Bool)  (w : World) : Calls Try.prog 26 #[.agg #[.int .i64 8, .int .i64 c1, .int .i64 c2, .bool c3, .bool c4, .bool c5, .int .u64 c6, .int .i64 c7, .int .u64 c8, .int .i64 c9, .int .i64 c10, .int .i64 c11, .int .i64 c12]] w fun e w' => e = .returned (.agg #[.int .u64 8, .int .u64 (IntKind.u64.wrap c9), .int .u64 0, .int .u64 0, .int .u64 0, .int .u64 0]) ∧ Below w.heap.size w w' := by
  have ZR : ∀ n : Nat, Hid (Blk (((w.alloc (.cells #[.int .i64 8, .int .i64 c1, .int .i64 c2, .bool c3, .bool c4, .bool c5, .int .u64 c6, .int .i64 c7, .int .u64 c8, .int .i64 c9, .int .i64 c10, .int .i64 c11, .int .i64 c12] 30)).alloc (.cells #[.int .u64 0, .int .u64 0, .int .u64 0, .int .u64 0, .int .u64 0, .int .u64 0] 24)).drewN n) (w.heap.size + 1) [.int .u64 0, .int .u64 0, .int .u64 0, .int .u64 0, .int .u64 0, .int .u64 0] 24) := fun n => by
    have := Blk.made (w.alloc (.cells #[.int .i64 8, .int .i64 c1, .int .i64 c2, .bool c3, .bool c4, .bool c5, .int .u64 c6, .int .i64 c7, .int .u64 c8, .int .i64 c9, .int .i64 c10, .int .i64 c11, .int .i64 c12] 30)) [.int .u64 0, .int .u64 0, .int .u64 0, .int .u64 0, .int .u64 0, .int .u64 0] 24
    rw [World.size_alloc] at this; exact this
  have BR : ∀ n : Nat, Hid (Below w.heap.size w (World.setCells (((w.alloc (.cells #[.int .i64 8, .int .i64 c1, .int .i64 c2, .bool c3, .bool c4, .bool c5, .int .u64 c6, .int .i64 c7, .int .u64 c8, .int .i64 c9, .int .i64 c10, .int .i64 c11, .int .i64 c12] 30)).alloc (.cells #[.int .u64 0, .int .u64 0, .int .u64 0, .int .u64 0, .int .u64 0, .int .u64 0] 24)).drewN n) (w.heap.size + 1) 0 [.int .u64 8, .int .u64 (IntKind.u64.wrap c9), .int .u64 0, .int .u64 0, .int .u64 0, .int .u64 0])) := fun n => below_scs (below_drewN0 (Go.Joins.below_alloc2 _ _ _)) (by omega) _ _
  go_enter Try.func26, Try.ntmps26
  go_wp2_with fail
  go_quiet (fail)
  go_wp2_with fail
  go_quiet (fail)
  go_wp2_with fail
  exact spell_end w _ _ _ _ _ _ _ _ (ZR _).out (BR _).out rfl
set_option maxHeartbeats 4000000 in
theorem spell9 (c1 c2 c6 c7 c8 c9 c10 c11 c12 : Int) (c3 c4 c5 : Bool)  (w : World) : Calls Try.prog 26 #[.agg #[.int .i64 9, .int .i64 c1, .int .i64 c2, .bool c3, .bool c4, .bool c5, .int .u64 c6, .int .i64 c7, .int .u64 c8, .int .i64 c9, .int .i64 c10, .int .i64 c11, .int .i64 c12]] w fun e w' => e = .returned (.agg #[.int .u64 9, .int .u64 (IntKind.u64.wrap c9), .int .u64 0, .int .u64 0, .int .u64 0, .int .u64 0]) ∧ Below w.heap.size w w' := by
  have ZR : ∀ n : Nat, Hid (Blk (((w.alloc (.cells #[.int .i64 9, .int .i64 c1, .int .i64 c2, .bool c3, .bool c4, .bool c5, .int .u64 c6, .int .i64 c7, .int .u64 c8, .int .i64 c9, .int .i64 c10, .int .i64 c11, .int .i64 c12] 30)).alloc (.cells #[.int .u64 0, .int .u64 0, .int .u64 0, .int .u64 0, .int .u64 0, .int .u64 0] 24)).drewN n) (w.heap.size + 1) [.int .u64 0, .int .u64 0, .int .u64 0, .int .u64 0, .int .u64 0, .int .u64 0] 24) := fun n => by
    have := Blk.made (w.alloc (.cells #[.int .i64 9, .int .i64 c1, .int .i64 c2, .bool c3, .bool c4, .bool c5, .int .u64 c6, .int .i64 c7, .int .u64 c8, .int .i64 c9, .int .i64 c10, .int .i64 c11, .int .i64 c12] 30)) [.int .u64 0, .int .u64 0, .int .u64 0, .int .u64 0, .int .u64 0, .int .u64 0] 24
    rw [World.size_alloc] at this; exact this
  have BR : ∀ n : Nat, Hid (Below w.heap.size w (World.setCells (((w.alloc (.cells #[.int .i64 9, .int .i64 c1, .int .i64 c2, .bool c3, .bool c4, .bool c5, .int .u64 c6, .int .i64 c7, .int .u64 c8, .int .i64 c9, .int .i64 c10, .int .i64 c11, .int .i64 c12] 30)).alloc (.cells #[.int .u64 0, .int .u64 0, .int .u64 0, .int .u64 0, .int .u64 0, .int .u64 0] 24)).drewN n) (w.heap.size + 1) 0 [.int .u64 9, .int .u64 (IntKind.u64.wrap c9), .int .u64 0, .int .u64 0, .int .u64 0, .int .u64 0])) := fun n => below_scs (below_drewN0 (Go.Joins.below_alloc2 _ _ _)) (by omega) _ _
  go_enter Try.func26, Try.ntmps26
  go_wp2_with fail
  go_quiet (fail)
  go_wp2_with fail
  go_quiet (fail)
  go_wp2_with fail
  exact spell_end w _ _ _ _ _ _ _ _ (ZR _).out (BR _).out rfl
set_option maxHeartbeats 4000000 in
theorem spell10 (c1 c2 c6 c7 c8 c9 c10 c11 c12 : Int) (c3 c4 c5 : Bool)  (w : World) : Calls Try.prog 26 #[.agg #[.int .i64 10, .int .i64 c1, .int .i64 c2, .bool c3, .bool c4, .bool c5, .int .u64 c6, .int .i64 c7, .int .u64 c8, .int .i64 c9, .int .i64 c10, .int .i64 c11, .int .i64 c12]] w fun e w' => e = .returned (.agg #[.int .u64 10, .int .u64 (c6), .int .u64 0, .int .u64 0, .int .u64 0, .int .u64 0]) ∧ Below w.heap.size w w' := by
  have ZR : ∀ n : Nat, Hid (Blk (((w.alloc (.cells #[.int .i64 10, .int .i64 c1, .int .i64 c2, .bool c3, .bool c4, .bool c5, .int .u64 c6, .int .i64 c7, .int .u64 c8, .int .i64 c9, .int .i64 c10, .int .i64 c11, .int .i64 c12] 30)).alloc (.cells #[.int .u64 0, .int .u64 0, .int .u64 0, .int .u64 0, .int .u64 0, .int .u64 0] 24)).drewN n) (w.heap.size + 1) [.int .u64 0, .int .u64 0, .int .u64 0, .int .u64 0, .int .u64 0, .int .u64 0] 24) := fun n => by
    have := Blk.made (w.alloc (.cells #[.int .i64 10, .int .i64 c1, .int .i64 c2, .bool c3, .bool c4, .bool c5, .int .u64 c6, .int .i64 c7, .int .u64 c8, .int .i64 c9, .int .i64 c10, .int .i64 c11, .int .i64 c12] 30)) [.int .u64 0, .int .u64 0, .int .u64 0, .int .u64 0, .int .u64 0, .int .u64 0] 24
    rw [World.size_alloc] at this; exact this
  have BR : ∀ n : Nat, Hid (Below w.heap.size w (World.setCells (((w.alloc (.cells #[.int .i64 10, .int .i64 c1, .int .i64 c2, .bool c3, .bool c4, .bool c5, .int .u64 c6, .int .i64 c7, .int .u64 c8, .int .i64 c9, .int .i64 c10, .int .i64 c11, .int .i64 c12] 30)).alloc (.cells #[.int .u64 0, .int .u64 0, .int .u64 0, .int .u64 0, .int .u64 0, .int .u64 0] 24)).drewN n) (w.heap.size + 1) 0 [.int .u64 10, .int .u64 (c6), .int .u64 0, .int .u64 0, .int .u64 0, .int .u64 0])) := fun n => below_scs (below_drewN0 (Go.Joins.below_alloc2 _ _ _)) (by omega) _ _
  go_enter Try.func26, Try.ntmps26
  go_wp2_with fail
  go_quiet (fail)
  go_wp2_with fail
  go_quiet (fail)
  go_wp2_with fail
  exact spell_end w _ _ _ _ _ _ _ _ (ZR _).out (BR _).out rfl
set_option maxHeartbeats 4000000 in
theorem spell12 (c1 c2 c6 c7 c8 c9 c10 c11 c12 : Int) (c3 c4 c5 : Bool)  (w : World) : Calls Try.prog 26 #[.agg #[.int .i64 12, .int .i64 c1, .int .i64 c2, .bool c3, .bool c4, .bool c5, .int .u64 c6, .int .i64 c7, .int .u64 c8, .int .i64 c9, .int .i64 c10, .int .i64 c11, .int .i64 c12]] w fun e w' => e = .returned (.agg #[.int .u64 12, .int .u64 (IntKind.u64.wrap c9), .int .u64 0, .int .u64 0, .int .u64 0, .int .u64 0]) ∧ Below w.heap.size w w' := by
  have ZR : ∀ n : Nat, Hid (Blk (((w.alloc (.cells #[.int .i64 12, .int .i64 c1, .int .i64 c2, .bool c3, .bool c4, .bool c5, .int .u64 c6, .int .i64 c7, .int .u64 c8, .int .i64 c9, .int .i64 c10, .int .i64 c11, .int .i64 c12] 30)).alloc (.cells #[.int .u64 0, .int .u64 0, .int .u64 0, .int .u64 0, .int .u64 0, .int .u64 0] 24)).drewN n) (w.heap.size + 1) [.int .u64 0, .int .u64 0, .int .u64 0, .int .u64 0, .int .u64 0, .int .u64 0] 24) := fun n => by
    have := Blk.made (w.alloc (.cells #[.int .i64 12, .int .i64 c1, .int .i64 c2, .bool c3, .bool c4, .bool c5, .int .u64 c6, .int .i64 c7, .int .u64 c8, .int .i64 c9, .int .i64 c10, .int .i64 c11, .int .i64 c12] 30)) [.int .u64 0, .int .u64 0, .int .u64 0, .int .u64 0, .int .u64 0, .int .u64 0] 24
    rw [World.size_alloc] at this; exact this
  have BR : ∀ n : Nat, Hid (Below w.heap.size w (World.setCells (((w.alloc (.cells #[.int .i64 12, .int .i64 c1, .int .i64 c2, .bool c3, .bool c4, .bool c5, .int .u64 c6, .int .i64 c7, .int .u64 c8, .int .i64 c9, .int .i64 c10, .int .i64 c11, .int .i64 c12] 30)).alloc (.cells #[.int .u64 0, .int .u64 0, .int .u64 0, .int .u64 0, .int .u64 0, .int .u64 0] 24)).drewN n) (w.heap.size + 1) 0 [.int .u64 12, .int .u64 (IntKind.u64.wrap c9), .int .u64 0, .int .u64 0, .int .u64 0, .int .u64 0])) := fun n => below_scs (below_drewN0 (Go.Joins.below_alloc2 _ _ _)) (by omega) _ _
  go_enter Try.func26, Try.ntmps26
  go_wp2_with fail
  go_quiet (fail)
  go_wp2_with fail
  go_quiet (fail)
  go_wp2_with fail
  exact spell_end w _ _ _ _ _ _ _ _ (ZR _).out (BR _).out rfl
set_option maxHeartbeats 4000000 in
theorem spell15 (c1 c2 c6 c7 c8 c9 c10 c11 c12 : Int) (c3 c4 c5 : Bool)  (w : World) : Calls Try.prog 26 #[.agg #[.int .i64 15, .int .i64 c1, .int .i64 c2, .bool c3, .bool c4, .bool c5, .int .u64 c6, .int .i64 c7, .int .u64 c8, .int .i64 c9, .int .i64 c10, .int .i64 c11, .int .i64 c12]] w fun e w' => e = .returned (.agg #[.int .u64 15, .int .u64 (IntKind.u64.wrap (IntKind.u64.wrap c9 - 1)), .int .u64 (IntKind.u64.wrap c10), .int .u64 (IntKind.u64.wrap c11), .int .u64 (IntKind.u64.wrap c12), .int .u64 0]) ∧ Below w.heap.size w w' := by
  have ZR : ∀ n : Nat, Hid (Blk (((w.alloc (.cells #[.int .i64 15, .int .i64 c1, .int .i64 c2, .bool c3, .bool c4, .bool c5, .int .u64 c6, .int .i64 c7, .int .u64 c8, .int .i64 c9, .int .i64 c10, .int .i64 c11, .int .i64 c12] 30)).alloc (.cells #[.int .u64 0, .int .u64 0, .int .u64 0, .int .u64 0, .int .u64 0, .int .u64 0] 24)).drewN n) (w.heap.size + 1) [.int .u64 0, .int .u64 0, .int .u64 0, .int .u64 0, .int .u64 0, .int .u64 0] 24) := fun n => by
    have := Blk.made (w.alloc (.cells #[.int .i64 15, .int .i64 c1, .int .i64 c2, .bool c3, .bool c4, .bool c5, .int .u64 c6, .int .i64 c7, .int .u64 c8, .int .i64 c9, .int .i64 c10, .int .i64 c11, .int .i64 c12] 30)) [.int .u64 0, .int .u64 0, .int .u64 0, .int .u64 0, .int .u64 0, .int .u64 0] 24
    rw [World.size_alloc] at this; exact this
  have BR : ∀ n : Nat, Hid (Below w.heap.size w (World.setCells (((w.alloc (.cells #[.int .i64 15, .int .i64 c1, .int .i64 c2, .bool c3, .bool c4, .bool c5, .int .u64 c6, .int .i64 c7, .int .u64 c8, .int .i64 c9, .int .i64 c10, .int .i64 c11, .int .i64 c12] 30)).alloc (.cells #[.int .u64 0, .int .u64 0, .int .u64 0, .int .u64 0, .int .u64 0, .int .u64 0] 24)).drewN n) (w.heap.size + 1) 0 [.int .u64 15, .int .u64 (IntKind.u64.wrap (IntKind.u64.wrap c9 - 1)), .int .u64 (IntKind.u64.wrap c10), .int .u64 (IntKind.u64.wrap c11), .int .u64 (IntKind.u64.wrap c12), .int .u64 0])) := fun n => below_scs (below_drewN0 (Go.Joins.below_alloc2 _ _ _)) (by omega) _ _
  go_enter Try.func26, Try.ntmps26
  go_wp2_with fail
  go_quiet (fail)
  go_wp2_with fail
  go_quiet (fail)
  go_wp2_with fail
  exact spell_end w _ _ _ _ _ _ _ _ (ZR _).out (BR _).out rfl
set_option maxHeartbeats 4000000 in
theorem spell16 (c1 c2 c6 c7 c8 c9 c10 c11 c12 : Int) (c3 c4 c5 : Bool)  (w : World) : Calls Try.prog 26 #[.agg #[.int .i64 16, .int .i64 c1, .int .i64 c2, .bool c3, .bool c4, .bool c5, .int .u64 c6, .int .i64 c7, .int .u64 c8, .int .i64 c9, .int .i64 c10, .int .i64 c11, .int .i64 c12]] w fun e w' => e = .returned (.agg #[.int .u64 16, .int .u64 (IntKind.u64.wrap c9), .int .u64 (c8), .int .u64 0, .int .u64 0, .int .u64 0]) ∧ Below w.heap.size w w' := by
  have ZR : ∀ n : Nat, Hid (Blk (((w.alloc (.cells #[.int .i64 16, .int .i64 c1, .int .i64 c2, .bool c3, .bool c4, .bool c5, .int .u64 c6, .int .i64 c7, .int .u64 c8, .int .i64 c9, .int .i64 c10, .int .i64 c11, .int .i64 c12] 30)).alloc (.cells #[.int .u64 0, .int .u64 0, .int .u64 0, .int .u64 0, .int .u64 0, .int .u64 0] 24)).drewN n) (w.heap.size + 1) [.int .u64 0, .int .u64 0, .int .u64 0, .int .u64 0, .int .u64 0, .int .u64 0] 24) := fun n => by
    have := Blk.made (w.alloc (.cells #[.int .i64 16, .int .i64 c1, .int .i64 c2, .bool c3, .bool c4, .bool c5, .int .u64 c6, .int .i64 c7, .int .u64 c8, .int .i64 c9, .int .i64 c10, .int .i64 c11, .int .i64 c12] 30)) [.int .u64 0, .int .u64 0, .int .u64 0, .int .u64 0, .int .u64 0, .int .u64 0] 24
    rw [World.size_alloc] at this; exact this
  have BR : ∀ n : Nat, Hid (Below w.heap.size w (World.setCells (((w.alloc (.cells #[.int .i64 16, .int .i64 c1, .int .i64 c2, .bool c3, .bool c4, .bool c5, .int .u64 c6, .int .i64 c7, .int .u64 c8, .int .i64 c9, .int .i64 c10, .int .i64 c11, .int .i64 c12] 30)).alloc (.cells #[.int .u64 0, .int .u64 0, .int .u64 0, .int .u64 0, .int .u64 0, .int .u64 0] 24)).drewN n) (w.heap.size + 1) 0 [.int .u64 16, .int .u64 (IntKind.u64.wrap c9), .int .u64 (c8), .int .u64 0, .int .u64 0, .int .u64 0])) := fun n => below_scs (below_drewN0 (Go.Joins.below_alloc2 _ _ _)) (by omega) _ _
  go_enter Try.func26, Try.ntmps26
  go_wp2_with fail
  go_quiet (fail)
  go_wp2_with fail
  go_quiet (fail)
  go_wp2_with fail
  exact spell_end w _ _ _ _ _ _ _ _ (ZR _).out (BR _).out rfl
set_option maxHeartbeats 4000000 in
theorem spell0 (c0 c1 c2 c6 c7 c8 c9 c10 c11 c12 : Int) (c3 c4 c5 : Bool) (h1 : ¬ c0 = 1) (h2 : ¬ c0 = 2) (h3 : ¬ c0 = 3) (h4 : ¬ c0 = 4) (h5 : ¬ c0 = 5) (h6 : ¬ c0 = 6) (h7 : ¬ c0 = 7) (h8 : ¬ c0 = 8) (h9 : ¬ c0 = 9) (h10 : ¬ c0 = 10) (h12 : ¬ c0 = 12) (h15 : ¬ c0 = 15) (h16 : ¬ c0 = 16) (w : World) : Calls Try.prog 26 #[.agg #[.int .i64 c0, .int .i64 c1, .int .i64 c2, .bool c3, .bool c4, .bool c5, .int .u64 c6, .int .i64 c7, .int .u64 c8, .int .i64 c9, .int .i64 c10, .int .i64 c11, .int .i64 c12]] w fun e w' => e = .returned (.agg #[.int .u64 (IntKind.u64.wrap c0), .int .u64 0, .int .u64 0, .int .u64 0, .int .u64 0, .int .u64 0]) ∧ Below w.heap.size w w' := by
  have g1 : (c0 == 1) = false := by simp [h1]
  have g2 : (c0 == 2) = false := by simp [h2]
  have g3 : (c0 == 3) = false := by simp [h3]
  have g4 : (c0 == 4) = false := by simp [h4]
  have g5 : (c0 == 5) = false := by simp [h5]
  have g6 : (c0 == 6) = false := by simp [h6]
  have g7 : (c0 == 7) = false := by simp [h7]
  have g8 : (c0 == 8) = false := by simp [h8]
  have g9 : (c0 == 9) = false := by simp [h9]
  have g10 : (c0 == 10) = false := by simp [h10]
  have g12 : (c0 == 12) = false := by simp [h12]
  have g15 : (c0 == 15) = false := by simp [h15]
  have g16 : (c0 == 16) = false := by simp [h16]
  have ZR : ∀ n : Nat, Hid (Blk (((w.alloc (.cells #[.int .i64 c0, .int .i64 c1, .int .i64 c2, .bool c3, .bool c4, .bool c5, .int .u64 c6, .int .i64 c7, .int .u64 c8, .int .i64 c9, .int .i64 c10, .int .i64 c11, .int .i64 c12] 30)).alloc (.cells #[.int .u64 0, .int .u64 0, .int .u64 0, .int .u64 0, .int .u64 0, .int .u64 0] 24)).drewN n) (w.heap.size + 1) [.int .u64 0, .int .u64 0, .int .u64 0, .int .u64 0, .int .u64 0, .int .u64 0] 24) := fun n => by
    have := Blk.made (w.alloc (.cells #[.int .i64 c0, .int .i64 c1, .int .i64 c2, .bool c3, .bool c4, .bool c5, .int .u64 c6, .int .i64 c7, .int .u64 c8, .int .i64 c9, .int .i64 c10, .int .i64 c11, .int .i64 c12] 30)) [.int .u64 0, .int .u64 0, .int .u64 0, .int .u64 0, .int .u64 0, .int .u64 0] 24
    rw [World.size_alloc] at this; exact this
  have BR : ∀ n : Nat, Hid (Below w.heap.size w (World.setCells (((w.alloc (.cells #[.int .i64 c0, .int .i64 c1, .int .i64 c2, .bool c3, .bool c4, .bool c5, .int .u64 c6, .int .i64 c7, .int .u64 c8, .int .i64 c9, .int .i64 c10, .int .i64 c11, .int .i64 c12] 30)).alloc (.cells #[.int .u64 0, .int .u64 0, .int .u64 0, .int .u64 0, .int .u64 0, .int .u64 0] 24)).drewN n) (w.heap.size + 1) 0 [.int .u64 (IntKind.u64.wrap c0), .int .u64 0, .int .u64 0, .int .u64 0, .int .u64 0, .int .u64 0])) := fun n => below_scs (below_drewN0 (Go.Joins.below_alloc2 _ _ _)) (by omega) _ _
  go_enter Try.func26, Try.ntmps26
  go_wp2_with fail
  go_quiet (fail)
  go_wp2_with fail
  go_quiet (fail)
  go_wp2_with fail
  exact spell_end w _ _ _ _ _ _ _ _ (ZR _).out (BR _).out rfl
end Go.Proofs.Ytccbacjiiffheaa
