/- A process's state: thirteen cells; Raise, Return, Handle. -/
import Derived.Test.YtcieglidghnidaaA0
namespace Go.Proofs.Ytcieglidghnidaa
open Go.ChangeShapes Go.WideShapes Go.ChangeAt Go.RowKit Go.Maps
set_option linter.unusedSimpArgs false
set_option linter.unusedVariables false

/-- a process's registers, and its way with faults -/
structure St where
  r0 : Int
  r1 : Int
  r2 : Int
  r3 : Int
  told : Int
  en : Int
  inn : Bool
  fa : Int
  fc : Int
  s0 : Int
  s1 : Int
  s2 : Int
  s3 : Int
deriving DecidableEq
abbrev St.val (s : St) : Value := .agg #[.int .u64 s.r0, .int .u64 s.r1, .int .u64 s.r2, .int .u64 s.r3, .int .i64 s.told, .int .u64 s.en, .bool s.inn, .int .u64 s.fa, .int .i64 s.fc, .int .u64 s.s0, .int .u64 s.s1, .int .u64 s.s2, .int .u64 s.s3]
def St.zero : St := ⟨0, 0, 0, 0, 0, 0, false, 0, 0, 0, 0, 0, 0⟩
set_option maxHeartbeats 4000000 in
theorem raise_none (r0 r1 r2 r3 t : Int) (i : Bool) (a c s0 s1 s2 s3 : Int) (fa fc : Int) (w : World) : Calls Try.prog 10 #[(St.mk r0 r1 r2 r3 t 0 i a c s0 s1 s2 s3).val, .agg #[.int .u64 fa, .int .i64 fc]] w fun e w' => e = .returned (.tuple #[(St.mk r0 r1 r2 r3 t 0 i a c s0 s1 s2 s3).val, .int .i64 5]) ∧ Below w.heap.size w w' := by
  go_enter Try.func10, Try.ntmps10
  go_wp2_with fail
  all_goals go_returns
  all_goals exact ⟨rfl, by repeat (first | exact Below.refl _ _ | refine below_new ?_ _ | refine below_drew ?_)⟩
set_option maxHeartbeats 4000000 in
theorem raise_busy (r0 r1 r2 r3 t en : Int) (a c s0 s1 s2 s3 : Int) (fa fc : Int) (h : en ≠ 0) (w : World) : Calls Try.prog 10 #[(St.mk r0 r1 r2 r3 t en true a c s0 s1 s2 s3).val, .agg #[.int .u64 fa, .int .i64 fc]] w fun e w' => e = .returned (.tuple #[(St.mk r0 r1 r2 r3 t en true a c s0 s1 s2 s3).val, .int .i64 11]) ∧ Below w.heap.size w w' := by
  have e0 : (en == 0) = false := by simpa using h
  go_enter Try.func10, Try.ntmps10
  go_wp2_with fail
  all_goals go_returns
  all_goals exact ⟨rfl, by repeat (first | exact Below.refl _ _ | refine below_new ?_ _ | refine below_drew ?_)⟩
set_option maxHeartbeats 4000000 in
theorem raise_ok (r0 r1 r2 r3 t en : Int) (a c s0 s1 s2 s3 : Int) (fa fc cc : Int) (h : en ≠ 0) (hc : IntKind.u64.wrap fc = cc) (w : World) : Calls Try.prog 10 #[(St.mk r0 r1 r2 r3 t en false a c s0 s1 s2 s3).val, .agg #[.int .u64 fa, .int .i64 fc]] w fun e w' => e = .returned (.tuple #[(St.mk fa cc 0 0 t en true fa fc r0 r1 r2 r3).val, .int .i64 0]) ∧ Below w.heap.size w w' := by
  have e0 : (en == 0) = false := by simpa using h
  go_enter Try.func10, Try.ntmps10
  go_wp2_with fail
  go_region
  all_goals go_wp2_with fail
  all_goals go_returns
  all_goals exact ⟨rfl, by repeat (first | exact Below.refl _ _ | refine below_new ?_ _ | refine below_drew ?_)⟩
set_option maxHeartbeats 4000000 in
theorem return_none (r0 r1 r2 r3 t en : Int) (a c s0 s1 s2 s3 : Int) (w : World) : Calls Try.prog 11 #[(St.mk r0 r1 r2 r3 t en false a c s0 s1 s2 s3).val] w fun e w' => e = .returned (.tuple #[(St.mk r0 r1 r2 r3 t en false a c s0 s1 s2 s3).val, .int .i64 5]) ∧ Below w.heap.size w w' := by
  go_enter Try.func11, Try.ntmps11
  go_wp2_with fail
  all_goals go_returns
  all_goals exact ⟨rfl, by repeat (first | exact Below.refl _ _ | refine below_new ?_ _ | refine below_drew ?_)⟩
set_option maxHeartbeats 4000000 in
theorem return_ok (r0 r1 r2 r3 t en : Int) (a c s0 s1 s2 s3 : Int) (w : World) : Calls Try.prog 11 #[(St.mk r0 r1 r2 r3 t en true a c s0 s1 s2 s3).val] w fun e w' => e = .returned (.tuple #[(St.mk s0 s1 s2 s3 t en false 0 0 0 0 0 0).val, .int .i64 0]) ∧ Below w.heap.size w w' := by
  go_enter Try.func11, Try.ntmps11
  go_wp2_with fail
  all_goals go_returns
  all_goals exact ⟨rfl, by repeat (first | exact Below.refl _ _ | refine below_new ?_ _ | refine below_drew ?_)⟩
set_option maxHeartbeats 4000000 in
theorem handle_busy (r0 r1 r2 r3 t en : Int) (a c s0 s1 s2 s3 : Int) (x : Int) (w : World) : Calls Try.prog 15 #[(St.mk r0 r1 r2 r3 t en true a c s0 s1 s2 s3).val, .int .u64 x] w fun e w' => e = .returned (.tuple #[(St.mk r0 r1 r2 r3 t en true a c s0 s1 s2 s3).val, .int .i64 11]) ∧ Below w.heap.size w w' := by
  go_enter Try.func15, Try.ntmps15
  go_wp2_with fail
  all_goals go_returns
  all_goals exact ⟨rfl, by repeat (first | exact Below.refl _ _ | refine below_new ?_ _ | refine below_drew ?_)⟩
set_option maxHeartbeats 4000000 in
theorem handle_ok (r0 r1 r2 r3 t en : Int) (a c s0 s1 s2 s3 : Int) (x : Int) (w : World) : Calls Try.prog 15 #[(St.mk r0 r1 r2 r3 t en false a c s0 s1 s2 s3).val, .int .u64 x] w fun e w' => e = .returned (.tuple #[(St.mk r0 r1 r2 r3 t x false a c s0 s1 s2 s3).val, .int .i64 0]) ∧ Below w.heap.size w w' := by
  go_enter Try.func15, Try.ntmps15
  go_wp2_with fail
  all_goals go_returns
  all_goals exact ⟨rfl, by repeat (first | exact Below.refl _ _ | refine below_new ?_ _ | refine below_drew ?_)⟩
end Go.Proofs.Ytcieglidghnidaa
