/- The contracts of flt.FromInt and of the laws' awake. -/
import Derived.Test.YtpfmkhnogobioacDoC
namespace Go.Proofs.Ytpfmkhnogobioac
open Go.ChangeShapes Go.WideShapes Go.ChangeAt Go.RowKit
open FltM
set_option linter.unusedSimpArgs false
set_option linter.unusedVariables false

theorem floatOfInt_eq (n : Int) : floatOfInt .f64 n = fromI n := rfl
theorem grown_drewN {W w : World} (h : Grown W w) (n : Nat) : Grown W (w.drewN n) := h

set_option maxHeartbeats 400000 in
theorem fromint_any (n : Int) (w : World) :
    Calls Try.prog 11 #[.int .i64 n] w fun e w' => e = .returned (.int .u64 (fromI n : Nat)) ∧ w' = w := by
  have hbt := bits_run
  have hfe := floatOfInt_eq
  go_enter Try.func11, Try.ntmps11
  go_wp2
  go_ret
  exact ⟨rfl, rfl⟩

set_option maxHeartbeats 400000 in
theorem awake_any (w : World) :
    Calls Try.prog 8 #[] w fun e w' => e = .returned (.bool true) ∧ ∃ n, w' = w.drewN n := by
  have h1 := fromI_one
  have h2 := awake_R
  have h3 := awake_T
  have h4 : doE 4 = 0 := by unfold doE; rw [if_neg (by omega)]
  have h5 := cls_qnan
  go_enter Try.func8, Try.ntmps8
  go_wp2_with (first | (go_at_call 11; refine (fromint_any _ _).mono ?_; rintro e w' ⟨rfl, rfl⟩) | (go_at_call 10; refine (do_any _ _ _ ?_ ?_ ?_ ?_ _).mono ?_; omega; omega; omega; omega; rintro e w' ⟨rfl, n, rfl⟩) | (go_at_call 7; refine (class_any _ ?_ ?_ _).mono ?_; omega; omega; rintro e w' ⟨rfl, rfl⟩))
  go_ret
  exact ⟨rfl, n, rfl⟩
end Go.Proofs.Ytpfmkhnogobioac
