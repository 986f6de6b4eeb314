/- The lines of the translations' store: a line, what fits, what is in form. -/
import Derived.Test.YtihedjlcjkbjfaaChecked
import Derived.WalkKit
import Derived.ProofKit
import Derived.OpenShut
import Derived.Carry
import Derived.Lib.SmallJoins
import Derived.Deep.Light
import Derived.Deep.MidRow
import Derived.Deep.RegionHeld3
import Derived.Deep.DrawnRows
import Derived.Handy
namespace Go.Proofs.Ytihedjlcjkbjfaa
open Go.ChangeShapes Go.WideShapes Go.ChangeAt Go.RowKit Go.Maps
set_option linter.unusedSimpArgs false
set_option linter.unusedVariables false
set_option maxRecDepth 8000

/-- a line -/
structure Ln where
  v : Bool
  t : Int
  p : Int
  f : Int
  w : Bool
  u : Bool
  x : Bool
  g : Bool
  d : Bool
def Ln.enc (l : Ln) : List Value := [.bool l.v, .int .i64 l.t, .int .i64 l.p, .int .i64 l.f, .bool l.w, .bool l.u, .bool l.x, .bool l.g, .bool l.d]
abbrev Ln.val (l : Ln) : Value := .agg #[.bool l.v, .int .i64 l.t, .int .i64 l.p, .int .i64 l.f, .bool l.w, .bool l.u, .bool l.x, .bool l.g, .bool l.d]
def Ln.zero : Ln := ⟨false, 0, 0, 0, false, false, false, false, false⟩
def Ln.fits (l : Ln) (tag page : Int) : Bool := l.v && (l.p == page && (l.t == tag || l.g))
def Ln.ok (l : Ln) : Bool := l.v && (decide (0 ≤ l.t) && decide (l.t < 4096) && decide (0 ≤ l.p) && decide (0 ≤ l.f))
set_option maxHeartbeats 400000 in
theorem fits_any (l : Ln) (tag page : Int) (w : World) : Calls Try.prog 40 #[l.val, .int .i64 tag, .int .i64 page] w fun e w' => e = .returned (.bool (l.fits tag page)) ∧ Below w.heap.size w w' := by
  obtain ⟨v, t, p, f, lw, lu, lx, g, d⟩ := l
  cases v
  · go_enter Try.func40, Try.ntmps40
    go_wp2
    go_returns
    exact ⟨by simp [Ln.fits], Go.Joins.below_alloc1 _ _⟩
  · by_cases hp : p = page
    · subst hp
      by_cases ht : t = tag
      · subst ht
        go_enter Try.func40, Try.ntmps40
        go_wp2
        go_returns
        exact ⟨by simp [Ln.fits], Go.Joins.below_alloc1 _ _⟩
      · have h2 : (t == tag) = false := by simp [ht]
        go_enter Try.func40, Try.ntmps40
        go_wp2
        go_returns
        exact ⟨by simp [Ln.fits, h2], Go.Joins.below_alloc1 _ _⟩
    · have h2 : (p == page) = false := by simp [hp]
      go_enter Try.func40, Try.ntmps40
      go_wp2
      go_returns
      exact ⟨by simp [Ln.fits, h2], Go.Joins.below_alloc1 _ _⟩
end Go.Proofs.Ytihedjlcjkbjfaa
