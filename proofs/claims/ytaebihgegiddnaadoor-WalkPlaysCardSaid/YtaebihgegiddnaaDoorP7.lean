/- Addresses are taken apart and put together: numbers. -/
import Derived.Test.YtaebihgegiddnaaDoorP5
namespace Go.Proofs.YtaebihgegiddnaaDoor
open Go.ChangeShapes Go.WideShapes Go.ChangeAt Go.RowKit
set_option linter.unusedSimpArgs false
set_option linter.unusedVariables false
set_option maxRecDepth 8000

theorem ext_mod (x y : Int) (h : x % 281474976710656 = y % 281474976710656) : ext x = ext y := by unfold ext; rw [h]
theorem ext_ext (x : Int) : ext (ext x) = ext x := by
  have h : ext x % 281474976710656 = x % 281474976710656 := by unfold ext; split <;> omega
  rw [ext_mod (ext x) x h]
theorem ext_of_mod (x : Int) : ext x % 281474976710656 = x % 281474976710656 := by unfold ext; split <;> omega
theorem parts_join (x : Int) : (((x / 4096 / 512 / 512 / 512 % 512 * 512 + x / 4096 / 512 / 512 % 512) * 512 + x / 4096 / 512 % 512) * 512 + x / 4096 % 512) * 4096 + x % 4096 = x % 281474976710656 := by
  have h1 : x % 2097152 = x / 4096 % 512 * 4096 + x % 4096 := by omega
  have h2 : x % 1073741824 = x / 2097152 % 512 * 2097152 + x % 2097152 := by omega
  have h3 : x % 549755813888 = x / 1073741824 % 512 * 1073741824 + x % 1073741824 := by omega
  have h4 : x % 281474976710656 = x / 549755813888 % 512 * 549755813888 + x % 549755813888 := by omega
  have e1 : x / 4096 / 512 = x / 2097152 := by rw [Int.ediv_ediv_of_nonneg (by omega)]; rfl
  have e2 : x / 2097152 / 512 = x / 1073741824 := by rw [Int.ediv_ediv_of_nonneg (by omega)]; rfl
  have e3 : x / 1073741824 / 512 = x / 549755813888 := by rw [Int.ediv_ediv_of_nonneg (by omega)]; rfl
  rw [e1, e2, e3, h4, h3, h2, h1]
  generalize x / 549755813888 % 512 = a
  generalize x / 1073741824 % 512 = b
  generalize x / 2097152 % 512 = c
  generalize x / 4096 % 512 = d
  generalize x % 4096 = o
  clear h1 h2 h3 h4 e1 e2 e3
  omega
theorem shl_ext (x : Int) : IntKind.u64.wrap (ext x * 65536) = IntKind.u64.wrap (x * 65536) := by
  rw [IntKind.wrap_u64, IntKind.wrap_u64]
  have h := ext_of_mod x
  omega
theorem div_at (S c r m : Int) (m0 : 0 < m) (r0 : 0 ≤ r) (r1 : r < m) (h : S = c * m + r) : S / m = c := by
  rw [h, Int.add_comm, Int.add_mul_ediv_right _ _ (by omega), Int.ediv_eq_zero_of_lt r0 r1]; omega
theorem ext_eq (z : Int) (h0 : 0 ≤ z) (h1 : z < 281474976710656) : ∃ k, 0 ≤ k ∧ k ≤ 65535 ∧ ext z = z + k * 281474976710656 := by
  unfold ext; split
  · exact ⟨0, by omega, by omega, by omega⟩
  · exact ⟨65535, by omega, by omega, by omega⟩
theorem join_parts (a b c d o : Int) (a0 : 0 ≤ a) (a1 : a < 512) (b0 : 0 ≤ b) (b1 : b < 512) (c0 : 0 ≤ c) (c1 : c < 512) (d0 : 0 ≤ d) (d1 : d < 512) (o0 : 0 ≤ o) (o1 : o < 4096) (Y : Int) (hY : ext ((((a * 512 + b) * 512 + c) * 512 + d) * 4096 + o) = Y) :
    Y / 4096 / 512 / 512 / 512 % 512 = a ∧ Y / 4096 / 512 / 512 % 512 = b ∧ Y / 4096 / 512 % 512 = c ∧ Y / 4096 % 512 = d ∧ Y % 4096 = o := by
  obtain ⟨k, k0, k1, hk⟩ := ext_eq ((((a * 512 + b) * 512 + c) * 512 + d) * 4096 + o) (by omega) (by omega)
  rw [hY] at hk
  have e1 : Y / 4096 = ((k * 512 + a) * 512 + b) * 262144 + c * 512 + d := div_at Y _ o 4096 (by omega) o0 o1 (by omega)
  have e2 : Y / 4096 / 512 = ((k * 512 + a) * 512 + b) * 512 + c := by rw [e1]; exact div_at _ _ d 512 (by omega) d0 d1 (by omega)
  have e3 : Y / 4096 / 512 / 512 = (k * 512 + a) * 512 + b := by rw [e2]; exact div_at _ _ c 512 (by omega) c0 c1 (by omega)
  have e4 : Y / 4096 / 512 / 512 / 512 = k * 512 + a := by rw [e3]; exact div_at _ _ b 512 (by omega) b0 b1 (by omega)
  rw [e4, e3, e2, e1]
  clear e1 e2 e3 e4 hY
  refine ⟨by omega, by omega, by omega, by omega, by omega⟩
end Go.Proofs.YtaebihgegiddnaaDoor
