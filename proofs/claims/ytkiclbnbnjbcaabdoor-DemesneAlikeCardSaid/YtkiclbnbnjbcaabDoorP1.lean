/- The contracts of pte's functions on addresses, and of Reserved. -/
import Derived.Test.YtkiclbnbnjbcaabDoorPM
import Derived.Test.YtkiclbnbnjbcaabDoorChecked
import Derived.ProofKit
import Derived.Handy
import Derived.Lib.SmallJoins
import Derived.Deep.Light
namespace Go.Proofs.YtkiclbnbnjbcaabDoor
open Go.ChangeShapes Go.WideShapes Go.ChangeAt Go.RowKit
set_option linter.unusedSimpArgs false
set_option linter.unusedVariables false
set_option maxRecDepth 8000

/-- an address whose bits above bit 47 are as bit 47 is -/
def ext (x : Int) : Int := if x % 281474976710656 < 140737488355328 then x % 281474976710656 else x % 281474976710656 + 18446462598732840960
theorem ext_bd (x : Int) : 0 ≤ ext x ∧ ext x < 18446744073709551616 := by unfold ext; split <;> omega

set_option maxHeartbeats 400000 in
theorem split_any (x : Int) (x0 : 0 ≤ x) (x1 : x < 18446744073709551616) (w : World) :
    Calls Tryd.prog 53 #[.int .u64 x] w fun e w' => e = .returned (.tuple #[.agg #[.int .i64 (x / 4096 / 512 / 512 / 512 % 512), .int .i64 (x / 4096 / 512 / 512 % 512), .int .i64 (x / 4096 / 512 % 512), .int .i64 (x / 4096 % 512)], .int .i64 (x % 4096)]) ∧ Below w.heap.size w w' := by
  go_enter Tryd.func53, Tryd.ntmps53
  go_wp2
  go_rounds 5
  go_returns
  exact ⟨rfl, Go.Joins.below_alloc2 _ _ _⟩
theorem idx4_0 (a b c d : Value) (W : World) : (Instr.index 84 (.agg #[a, b, c, d]) (.int .i64 0)).run Tryd.prog W = .ok a W := by kernel_rfl
theorem idx4_1 (a b c d : Value) (W : World) : (Instr.index 84 (.agg #[a, b, c, d]) (.int .i64 1)).run Tryd.prog W = .ok b W := by kernel_rfl
theorem idx4_2 (a b c d : Value) (W : World) : (Instr.index 84 (.agg #[a, b, c, d]) (.int .i64 2)).run Tryd.prog W = .ok c W := by kernel_rfl
theorem idx4_3 (a b c d : Value) (W : World) : (Instr.index 84 (.agg #[a, b, c, d]) (.int .i64 3)).run Tryd.prog W = .ok d W := by kernel_rfl
theorem or_low (X p : Int) (k : Nat) (m : Int) (hm : m = 2 ^ k) (x0 : 0 ≤ X) (p0 : 0 ≤ p) (p1 : p < m) (h : X * m + m ≤ 18446744073709551616) : bits .or .u64 (IntKind.u64.wrap (X * m)) p = X * m + p := by
  have hm0 : 0 ≤ X * m := Int.mul_nonneg x0 (by omega)
  rw [IntKind.wrap_u64, Int.emod_eq_of_lt hm0 (by omega)]
  rw [u64_or _ _ hm0 (by omega) p0 (by omega)]
  obtain ⟨Xn, rfl⟩ := Int.eq_ofNat_of_zero_le x0
  obtain ⟨pn, rfl⟩ := Int.eq_ofNat_of_zero_le p0
  have e : (Xn : Int) * m = ((2 ^ k * Xn : Nat) : Int) := by rw [hm, Int.natCast_mul, Int.natCast_pow, Int.mul_comm]; rfl
  have hp : pn < 2 ^ k := by
    have : m = ((2 ^ k : Nat) : Int) := by rw [hm, Int.natCast_pow]; rfl
    omega
  rw [e, Int.toNat_natCast, Int.toNat_natCast, ← Nat.two_pow_add_eq_or_of_lt hp]
  omega
theorem or_zero (a : Int) (a0 : 0 ≤ a) (a1 : a < 18446744073709551616) : bits .or .u64 0 a = a := by
  rw [u64_or _ _ (by omega) (by omega) a0 a1]
  simp; omega
theorem join_term (a b c d o : Int) (a0 : 0 ≤ a) (a1 : a < 512) (b0 : 0 ≤ b) (b1 : b < 512) (c0 : 0 ≤ c) (c1 : c < 512) (d0 : 0 ≤ d) (d1 : d < 512) (o0 : 0 ≤ o) (o1 : o < 4096) :
    bits .or .u64 (IntKind.u64.wrap (bits .or .u64 (IntKind.u64.wrap (bits .or .u64 (IntKind.u64.wrap (bits .or .u64 (IntKind.u64.wrap (bits .or .u64 0 a * 512)) b * 512)) c * 512)) d * 4096)) o = (((a * 512 + b) * 512 + c) * 512 + d) * 4096 + o := by
  rw [or_zero a a0 (by omega), or_low a b 9 512 (by decide) a0 b0 b1 (by omega), or_low (a * 512 + b) c 9 512 (by decide) (by omega) c0 c1 (by omega),
    or_low ((a * 512 + b) * 512 + c) d 9 512 (by decide) (by omega) d0 d1 (by omega), or_low (((a * 512 + b) * 512 + c) * 512 + d) o 12 4096 (by decide) (by omega) o0 o1 (by omega)]
end Go.Proofs.YtkiclbnbnjbcaabDoor
