/- The contracts of Class, Compare and FromInt at known operands, their answers as letters. -/
import Derived.Test.YtpfmkhnogobioacDoAbsC
namespace Go.Proofs.Ytpfmkhnogobioac
open Go.ChangeShapes Go.WideShapes Go.ChangeAt Go.RowKit
open FltM

theorem class_at (x : Int) (h0 : 0 ≤ x) (h1 : x < 18446744073709551616) {v : Int} (hv : cls x.toNat = v) :
    Hid (∀ w : World, Calls Try.prog 7 #[.int .u64 x] w fun e w' => e = .returned (.int .i64 v) ∧ w' = w) := by
  intro w; rw [← hv]; exact class_any x h0 h1 w
theorem cmp_at (a b : Int) {v : Int} (hv : cmpF a.toNat b.toNat = v) :
    Hid (∀ w : World, Calls Try.prog 9 #[.int .u64 a, .int .u64 b] w fun e w' => e = .returned (.int .i64 v) ∧ w' = w) := by
  intro w; rw [← hv]; exact compare_any a b w
theorem from_at (n : Int) {v : Int} (hv : ((fromI n : Nat) : Int) = v) :
    Hid (∀ w : World, Calls Try.prog 11 #[.int .i64 n] w fun e w' => e = .returned (.int .u64 v) ∧ w' = w) := by
  intro w; rw [← hv]; exact fromint_any n w
end Go.Proofs.Ytpfmkhnogobioac
