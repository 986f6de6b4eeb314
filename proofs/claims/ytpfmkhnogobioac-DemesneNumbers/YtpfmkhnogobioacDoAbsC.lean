/- flt.Do's contract at known operands, its answers as letters. -/
import Derived.Test.YtpfmkhnogobioacAwakeC
import Derived.Test.YtpfmkhnogobioacMath2
namespace Go.Proofs.Ytpfmkhnogobioac
open Go.ChangeShapes Go.WideShapes Go.ChangeAt Go.RowKit
open FltM

theorem do_at (op a b : Int) (ha0 : 0 ≤ a) (ha1 : a < 18446744073709551616) (hb0 : 0 ≤ b) (hb1 : b < 18446744073709551616) {x t z : Int}
    (hx : ((doR op a.toNat b.toNat : Nat) : Int) = x) (ht : doT op a.toNat b.toNat = t) (hz : doE op = z) :
    Hid (∀ w : World, Calls Try.prog 10 #[.int .i64 op, .int .u64 a, .int .u64 b] w fun e w' => e = .returned (.tuple #[.int .u64 x, .int .i64 t, .int .i64 z]) ∧ ∃ n, w' = w.drewN n) := by
  intro w
  rw [← hx, ← ht, ← hz]
  exact do_any op a b ha0 ha1 hb0 hb1 w
end Go.Proofs.Ytpfmkhnogobioac
