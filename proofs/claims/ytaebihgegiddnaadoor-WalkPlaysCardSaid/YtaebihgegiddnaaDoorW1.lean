/- The contracts of walk's small functions. -/
import Derived.Test.YtaebihgegiddnaaDoorP6
import Derived.Test.YtaebihgegiddnaaDoorR16
import Derived.WalkSmall
namespace Go.Proofs.YtaebihgegiddnaaDoor
open Go.ChangeShapes Go.WideShapes Go.ChangeAt Go.RowKit Go.Maps
set_option linter.unusedSimpArgs false
set_option linter.unusedVariables false
set_option maxRecDepth 8000

/-- what a fault's code says of an access -/
def codeV (x u f : Bool) : Int := fl x 2 + fl u 4 + fl f 16
theorem code_any (x u f : Bool) (w : World) : Calls Tryd.prog 20 #[.agg #[.bool x, .bool u, .bool f]] w fun e w' => e = .returned (.int .i64 (codeV x u f)) ∧ Below w.heap.size w w' := by
  have o1 : bits .or .i64 0 2 = 2 := by decide
  have o2 : bits .or .i64 0 4 = 4 := by decide
  have o3 : bits .or .i64 0 16 = 16 := by decide
  have o4 : bits .or .i64 2 4 = 6 := by decide
  have o5 : bits .or .i64 2 16 = 18 := by decide
  have o6 : bits .or .i64 4 16 = 20 := by decide
  have o7 : bits .or .i64 6 16 = 22 := by decide
  cases x <;> cases u <;> cases f
  all_goals
    go_enter Tryd.func20, Tryd.ntmps20
    go_wp2
    go_returns
    exact ⟨rfl, Go.Joins.below_alloc1 _ _⟩
def mayV (pw pu px x u f : Bool) : Bool := (!x || pw) && (!u || pu) && (!f || px)
theorem may_any (pw pu px x u f : Bool) (w : World) : Calls Tryd.prog 14 #[.agg #[.bool pw, .bool pu, .bool px], .agg #[.bool x, .bool u, .bool f]] w fun e w' => e = .returned (.bool (mayV pw pu px x u f)) ∧ Below w.heap.size w w' := by
  cases x <;> cases u <;> cases f
  all_goals
    go_enter Tryd.func14, Tryd.ntmps14
    go_wp2
    all_goals
      go_returns
      refine ⟨?_, Go.Joins.below_alloc2 _ _ _⟩
      simp_all [mayV]

/-- a refusal, as what a walk panics with -/
def refv (addr code err : Int) : PanicEntry := { v := .iface 72 (.agg #[.int .u64 addr, .int .i64 code, .int .i64 err]), recovered := false }
set_option maxHeartbeats 400000 in
theorem refuse_any (addr code more c : Int) (hc : bits .or .i64 code more = c) (w : World) : Calls Tryd.prog 23 #[.agg #[.int .u64 addr, .int .i64 code], .int .i64 more] w fun e w' => e = .panicked [refv addr c 9] ∧ Below w.heap.size w w' := by
  go_enter Tryd.func23, Tryd.ntmps23
  go_wp2
  exact ⟨rfl, rfl, Go.Joins.below_alloc1 _ _⟩
end Go.Proofs.YtaebihgegiddnaaDoor
