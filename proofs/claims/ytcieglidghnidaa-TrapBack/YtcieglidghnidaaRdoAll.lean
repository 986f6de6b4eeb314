/- The document's answer for flt.Do, any operation on any bits. -/
import Derived.Test.YtcieglidghnidaaRdo3
import Derived.Test.YtcieglidghnidaaRdo4
import Derived.Test.YtcieglidghnidaaRdo5
import Derived.Test.YtcieglidghnidaaRdo6
namespace Go.Proofs.Ytcieglidghnidaa
open Go.ChangeShapes Go.WideShapes Go.ChangeAt Go.RowKit
open FltM

theorem rdo_any (op : Int) (a b : Int) (ha0 : 0 ≤ a) (ha1 : a < 18446744073709551616) (hb0 : 0 ≤ b) (hb1 : b < 18446744073709551616) (w : World) :
    Calls Try.prog 25 #[.int .i64 op, .int .u64 a, .int .u64 b] w fun e w' => e = .returned (.tuple #[.int .u64 (doR op a.toNat b.toNat : Nat), .int .i64 (doT op a.toNat b.toNat), .int .i64 (doE op)]) ∧ ∃ n, w' = w.drewN n := by
  by_cases c : op < 1 ∨ 8 < op
  · exact rdo_out op a b ha0 ha1 hb0 hb1 w c
  · rcases (show op = 1 ∨ op = 2 ∨ op = 3 ∨ op = 4 ∨ op = 5 ∨ op = 6 ∨ op = 7 ∨ op = 8 by omega) with rfl | rfl | rfl | rfl | rfl | rfl | rfl | rfl
    case inr.inr.inr.inr.inr.inr.inl => exact rdo_neg a b ha0 ha1 hb0 hb1 w
    case inr.inr.inr.inr.inr.inr.inr => exact rdo_abs a b ha0 ha1 hb0 hb1 w
    all_goals
      by_cases h : 9218868437227405312 < rg a.toNat ∨ 9218868437227405312 < rg b.toNat
    · exact rdo_nan1 a b ha0 ha1 hb0 hb1 w h
    · exact rdo_add a b ha0 ha1 hb0 hb1 w (fun k => h (Or.inl k)) (fun k => h (Or.inr k))
    · exact rdo_nan2 a b ha0 ha1 hb0 hb1 w h
    · exact rdo_sub a b ha0 ha1 hb0 hb1 w (fun k => h (Or.inl k)) (fun k => h (Or.inr k))
    · exact rdo_nan3 a b ha0 ha1 hb0 hb1 w h
    · exact rdo_mul a b ha0 ha1 hb0 hb1 w (fun k => h (Or.inl k)) (fun k => h (Or.inr k))
    · exact rdo_nan4 a b ha0 ha1 hb0 hb1 w h
    · exact rdo_div a b ha0 ha1 hb0 hb1 w (fun k => h (Or.inl k)) (fun k => h (Or.inr k))
    · exact rdo_nan5 a b ha0 ha1 hb0 hb1 w h
    · exact rdo_min a b ha0 ha1 hb0 hb1 w (fun k => h (Or.inl k)) (fun k => h (Or.inr k))
    · exact rdo_nan6 a b ha0 ha1 hb0 hb1 w h
    · exact rdo_max a b ha0 ha1 hb0 hb1 w (fun k => h (Or.inl k)) (fun k => h (Or.inr k))
end Go.Proofs.Ytcieglidghnidaa
