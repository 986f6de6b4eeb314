/- The laws' awake: a small memory answers what the document fixes. -/
import Derived.Test.YtkiclbnbnjbcaabDoorR10
namespace Go.Proofs.YtkiclbnbnjbcaabDoor
open Go.ChangeShapes Go.WideShapes Go.ChangeAt Go.RowKit Go.Maps
set_option linter.unusedSimpArgs false
set_option linter.unusedVariables false
set_option maxRecDepth 8000

theorem le_at {B rb : Nat} {has : Int → Bool} {F : Int} (M : Int → Int) (n : Nat) (addr size z : Int) (h0 : 0 ≤ addr) (h1 : addr < 18446744073709551616) (hz : chkG has addr size = z) (hnz : z ≠ 0) :
    Hid (∀ w : World, IsRam w B rb has F M n → Calls Tryd.prog 65 #[.pointer (some ⟨rb, 0, none⟩), .int .u64 addr, .int .i64 size] w fun e w' => e = .returned (.tuple #[.int .u64 0, .int .i64 z]) ∧ IsRam w' B rb has F M n ∧ Below B w w') :=
  fun w h => load_err h addr size h0 h1 z hz hnz
theorem se_at {B rb : Nat} {has : Int → Bool} {F : Int} (M : Int → Int) (n : Nat) (addr size x z : Int) (h0 : 0 ≤ addr) (h1 : addr < 18446744073709551616) (hz : chkG has addr size = z) (hnz : z ≠ 0) :
    Hid (∀ w : World, IsRam w B rb has F M n → Calls Tryd.prog 48 #[.pointer (some ⟨rb, 0, none⟩), .int .u64 addr, .int .i64 size, .int .u64 x] w fun e w' => e = .returned (.int .i64 z) ∧ IsRam w' B rb has F M n ∧ Below B w w') :=
  fun w h => store_err h addr size x h0 h1 z hz hnz
theorem nw_at (F : Int) (f0 : 1 ≤ F) (f1 : F ≤ 1048576) : Hid (∀ w : World, Calls Tryd.prog 18 #[.int .i64 F, .slice none 0 0] w fun e w' => e = .returned (.tuple #[.pointer (some ⟨w.heap.size + 1, 0, none⟩), .int .i64 0]) ∧
    IsRam w' w.heap.size (w.heap.size + 1) (hasF F) F (fun _ => 0) 0 ∧ Below w.heap.size w w') := fun w => new_nil F f0 f1 w
theorem nil_no (b : Nat) (W : World) : (binOp .eql 23 (.pointer (some ⟨b, 0, none⟩)) (.pointer none)).run Tryd.prog W = .ok (.bool false) W := by kernel_rfl

end Go.Proofs.YtkiclbnbnjbcaabDoor
