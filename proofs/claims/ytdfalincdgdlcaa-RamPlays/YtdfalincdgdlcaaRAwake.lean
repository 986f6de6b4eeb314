/- The laws' awake: a small memory answers what the document fixes. -/
import Derived.Test.YtdfalincdgdlcaaR10
namespace Go.Proofs.Ytdfalincdgdlcaa
open Go.ChangeShapes Go.WideShapes Go.ChangeAt Go.RowKit Go.Maps
set_option linter.unusedSimpArgs false
set_option linter.unusedVariables false

theorem le_at {B rb : Nat} {has : Int → Bool} {F : Int} (M : Int → Int) (n : Nat) (addr size z : Int) (h0 : 0 ≤ addr) (h1 : addr < 18446744073709551616) (hz : chkG has addr size = z) (hnz : z ≠ 0) :
    Hid (∀ w : World, IsRam w B rb has F M n → Calls Try.prog 11 #[.pointer (some ⟨rb, 0, none⟩), .int .u64 addr, .int .i64 size] w fun e w' => e = .returned (.tuple #[.int .u64 0, .int .i64 z]) ∧ IsRam w' B rb has F M n ∧ Below B w w') :=
  fun w h => load_err h addr size h0 h1 z hz hnz
theorem se_at {B rb : Nat} {has : Int → Bool} {F : Int} (M : Int → Int) (n : Nat) (addr size x z : Int) (h0 : 0 ≤ addr) (h1 : addr < 18446744073709551616) (hz : chkG has addr size = z) (hnz : z ≠ 0) :
    Hid (∀ w : World, IsRam w B rb has F M n → Calls Try.prog 9 #[.pointer (some ⟨rb, 0, none⟩), .int .u64 addr, .int .i64 size, .int .u64 x] w fun e w' => e = .returned (.int .i64 z) ∧ IsRam w' B rb has F M n ∧ Below B w w') :=
  fun w h => store_err h addr size x h0 h1 z hz hnz
theorem nw_at (F : Int) (f0 : 1 ≤ F) (f1 : F ≤ 1048576) : Hid (∀ w : World, Calls Try.prog 5 #[.int .i64 F, .slice none 0 0] w fun e w' => e = .returned (.tuple #[.pointer (some ⟨w.heap.size + 1, 0, none⟩), .int .i64 0]) ∧
    IsRam w' w.heap.size (w.heap.size + 1) (hasF F) F (fun _ => 0) 0 ∧ Below w.heap.size w w') := fun w => new_nil F f0 f1 w
theorem nil_no (b : Nat) (W : World) : (binOp .eql 25 (.pointer (some ⟨b, 0, none⟩)) (.pointer none)).run Try.prog W = .ok (.bool false) W := by kernel_rfl

set_option maxHeartbeats 400000 in
theorem awake_any (w : World) : Calls Try.prog 7 #[] w fun e w' => e = .returned (.bool true) ∧ Below w.heap.size w w' := by
  have hmx : (100 : Nat) < maxLen := by unfold maxLen; decide
  obtain ⟨M1, hM1⟩ : ∃ M1, mset (fun _ => 0) 4094 4 287454020 = M1 := ⟨_, rfl⟩
  have l1 : ld M1 4094 (2 : Int).toNat = 13124 := by
    rw [← hM1, show (2 : Int).toNat = 2 from rfl, ld_mset_low _ _ _ _ (by omega) 2 (by omega)]; decide
  have S1 := st_at (B := w.heap.size) (rb := w.heap.size + 1) (has := hasF 2) (F := 2) (fun _ => 0) 0 4094 4 287454020 (by omega) (by omega) (by omega) (chk_in (by omega) (by omega) (by omega) (by omega)) (by omega) (by omega)
  have O1 := ld_at (B := w.heap.size) (rb := w.heap.size + 1) (has := hasF 2) (F := 2) M1 2 4094 2 13124 (by omega) (by omega) (chk_in (by omega) (by omega) (by omega) (by omega)) l1
  have O2 := le_at (B := w.heap.size) (rb := w.heap.size + 1) (has := hasF 2) (F := 2) M1 2 0 3 1 (by omega) (by omega) (by unfold chkG; rw [if_neg (by omega)]) (by omega)
  rw [hM1] at S1
  have nw := nw_at 2 (by omega) (by omega)
  have hnil := nil_no
  clear hM1 l1
  go_enter Try.func7, Try.ntmps7
  go_wp2_with fail
  refine (nw.out _).mono ?_
  rintro e v1 ⟨rfl, hI1, hb1⟩
  have HI1 : Hid (IsRam v1 w.heap.size (w.heap.size + 1) (hasF 2) 2 (fun _ => 0) 0) := hI1
  have HB1 : Hid (Below w.heap.size w v1) := hb1
  clear hI1 hb1
  go_wp2_with fail
  refine (S1.out _ HI1.out).mono ?_
  rintro e v2 ⟨rfl, hI2, hb2⟩
  have HI2 : Hid (IsRam v2 w.heap.size (w.heap.size + 1) (hasF 2) 2 M1 2) := hI2
  have HB2 : Hid (Below w.heap.size v1 v2) := hb2
  clear hI2 hb2
  go_wp2_with fail
  refine (O1.out _ HI2.out).mono ?_
  rintro e v3 ⟨rfl, hI3, hb3⟩
  have HI3 : Hid (IsRam v3 w.heap.size (w.heap.size + 1) (hasF 2) 2 M1 2) := hI3
  have HB3 : Hid (Below w.heap.size v2 v3) := hb3
  clear hI3 hb3
  go_wp2_with fail
  refine (O2.out _ HI3.out).mono ?_
  rintro e v4 ⟨rfl, hI4, hb4⟩
  have HI4 : Hid (IsRam v4 w.heap.size (w.heap.size + 1) (hasF 2) 2 M1 2) := hI4
  have HB4 : Hid (Below w.heap.size v3 v4) := hb4
  clear hI4 hb4
  go_wp2_with fail
  go_ret
  exact ⟨rfl, ((HB1.out.trans HB2.out).trans HB3.out).trans HB4.out⟩
end Go.Proofs.Ytdfalincdgdlcaa
