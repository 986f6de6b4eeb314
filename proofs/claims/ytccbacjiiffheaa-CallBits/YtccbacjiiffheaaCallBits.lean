/- For any words, any place and any bit: no bit of a call's words may be turned without another call, or none, coming of it; no condition. -/
import Derived.Test.YtccbacjiiffheaaRows
import Derived.ProofKit
import Derived.OpenShut
import Derived.Carry
import Derived.Test.YtccbacjiiffheaaCYa
import Derived.Test.YtccbacjiiffheaaCYb
import Derived.Test.YtccbacjiiffheaaCYc
namespace Go.Proofs.Ytccbacjiiffheaa.callBits
open Go.ChangeShapes Go.WideShapes Go.ChangeAt Go.RowKit Go.Maps
set_option linter.unusedSimpArgs false
set_option linter.unusedVariables false
theorem xor_ne (x s : Int) (h0 : 0 ≤ x) (h1 : x < 18446744073709551616) (s0 : 1 ≤ s) (s1 : s < 18446744073709551616) : 0 ≤ bits .xor .u64 x s ∧ bits .xor .u64 x s < 18446744073709551616 ∧ bits .xor .u64 x s ≠ x := by
  have e : bits .xor .u64 x s = ((BitVec.ofInt 64 x ^^^ BitVec.ofInt 64 s).toNat : Int) := by
    show IntKind.u64.wrap _ = _
    rw [IntKind.wrap_u64]
    have : (BitVec.ofInt 64 x ^^^ BitVec.ofInt 64 s).toNat < 2 ^ 64 := BitVec.isLt _
    show (((BitVec.ofInt 64 x ^^^ BitVec.ofInt 64 s).toNat : Nat) : Int) % 18446744073709551616 = _
    omega
  have lt : (BitVec.ofInt 64 x ^^^ BitVec.ofInt 64 s).toNat < 2 ^ 64 := BitVec.isLt _
  refine ⟨by rw [e]; omega, by rw [e]; omega, fun q => ?_⟩
  rw [e] at q
  have ax : ((BitVec.ofInt 64 x).toNat : Int) = x := by rw [BitVec.toNat_ofInt]; omega
  have eq : BitVec.ofInt 64 x ^^^ BitVec.ofInt 64 s = BitVec.ofInt 64 x := by
    apply BitVec.eq_of_toNat_eq; omega
  have z : BitVec.ofInt 64 s = 0#64 := by
    have := congrArg (fun v => BitVec.ofInt 64 x ^^^ v) eq
    simpa [← BitVec.xor_assoc] using this
  have sn : ((BitVec.ofInt 64 s).toNat : Int) = s := by rw [BitVec.toNat_ofInt]; omega
  rw [z] at sn
  simp at sn
  omega
theorem pow_lt (n : Nat) (h : n ≤ 63) : (1 : Int) ≤ 2 ^ n ∧ (2 : Int) ^ n < 18446744073709551616 := by
  have h1 : (2 : Nat) ^ n ≤ 2 ^ 63 := Nat.pow_le_pow_right (by omega) h
  have h2 : 0 < (2 : Nat) ^ n := Nat.two_pow_pos n
  have e : ((2 ^ n : Nat) : Int) = (2 : Int) ^ n := by simp
  rw [← e]; omega

set_option maxRecDepth 8000 in
set_option maxHeartbeats 16000000 in
theorem walk (D0 : Wd) (w0 : D0.wf) (a1 : Int) (w1 : (Lit.int .i64 a1).wf = true) (a2 : Int) (w2 : (Lit.int .i64 a2).wf = true) (w : World)  :
    Calls Try.prog 6 #[D0.val, .int .i64 a1, .int .i64 a2] w fun e w' => e = .returned (.bool true) ∧ Below w.heap.size w w' := by
  have AWH : Hid (∀ W : World, Calls Try.prog 11 #[] W fun e w' => e = .returned (.bool true) ∧ Below W.heap.size W w') := fun W => awake_any W
  obtain ⟨x0, x1, x2, x3, x4, x5⟩ := D0
  have Z0 : Hid (Blk (w.alloc (.cells #[.int .u64 x0, .int .u64 x1, .int .u64 x2, .int .u64 x3, .int .u64 x4, .int .u64 x5] 24)) w.heap.size [.int .u64 x0, .int .u64 x1, .int .u64 x2, .int .u64 x3, .int .u64 x4, .int .u64 x5] 24) := Blk.made w _ _
  by_cases hs : ∃ c, Says ⟨x0, x1, x2, x3, x4, x5⟩ c
  rotate_left
  · have R1 : Hid (∀ W : World, Calls Try.prog 9 #[.agg #[.int .u64 x0, .int .u64 x1, .int .u64 x2, .int .u64 x3, .int .u64 x4, .int .u64 x5]] W fun e w' => e = .returned (.tuple #[.agg #[.int .i64 0, .int .i64 0, .int .i64 0, .bool false, .bool false, .bool false, .int .u64 0, .int .i64 0, .int .u64 0, .int .i64 0, .int .i64 0, .int .i64 0, .int .i64 0], .int .i64 13]) ∧ Below W.heap.size W w') := fun W => read_no _ w0 hs W
    clear hs
    go_enter Try.func6, Try.ntmps6
    go_wp2_with fail
    refine (R1.out _).mono ?_
    rintro e u1 ⟨rfl, hb⟩
    have B1 : Hid (Below w.heap.size w u1) := below_then (Go.Joins.below_alloc1 _ _) hb
    have Z1 : Hid (Blk u1 w.heap.size [.int .u64 x0, .int .u64 x1, .int .u64 x2, .int .u64 x3, .int .u64 x4, .int .u64 x5] 24) := Z0.out.below hb
    clear hb
    have yc0 : u1.cell? ⟨w.heap.size, 0, none⟩ = some (.int .u64 x0) := Z1.out.cell 0
    have yf0 : u1.frozen? ⟨w.heap.size, 0, none⟩ = false := Z1.out.free 0
    have yc1 : u1.cell? ⟨w.heap.size, 1, none⟩ = some (.int .u64 x1) := Z1.out.cell 1
    have yf1 : u1.frozen? ⟨w.heap.size, 1, none⟩ = false := Z1.out.free 1
    have yc2 : u1.cell? ⟨w.heap.size, 2, none⟩ = some (.int .u64 x2) := Z1.out.cell 2
    have yf2 : u1.frozen? ⟨w.heap.size, 2, none⟩ = false := Z1.out.free 2
    have yc3 : u1.cell? ⟨w.heap.size, 3, none⟩ = some (.int .u64 x3) := Z1.out.cell 3
    have yf3 : u1.frozen? ⟨w.heap.size, 3, none⟩ = false := Z1.out.free 3
    have yc4 : u1.cell? ⟨w.heap.size, 4, none⟩ = some (.int .u64 x4) := Z1.out.cell 4
    have yf4 : u1.frozen? ⟨w.heap.size, 4, none⟩ = false := Z1.out.free 4
    have yc5 : u1.cell? ⟨w.heap.size, 5, none⟩ = some (.int .u64 x5) := Z1.out.cell 5
    have yf5 : u1.frozen? ⟨w.heap.size, 5, none⟩ = false := Z1.out.free 5
    have lt1 : w.heap.size < u1.heap.size := blk_lt Z1.out
    go_wp2_with fail
    refine (AWH.out _).mono ?_
    rintro e u9 ⟨rfl, hb⟩
    have B9 : Hid (Below w.heap.size w u9) := below_then (below_new B1.out _) hb
    clear hb
    go_wp2_with fail
    go_ret
    exact ⟨rfl, B9.out⟩
  obtain ⟨c, hs⟩ := hs
  obtain ⟨c0, c1, c2, c3, c4, c5, c6, c7, c8, c9, c10, c11, c12⟩ := c
  have R1 : Hid (∀ W : World, Calls Try.prog 9 #[.agg #[.int .u64 x0, .int .u64 x1, .int .u64 x2, .int .u64 x3, .int .u64 x4, .int .u64 x5]] W fun e w' => e = .returned (.tuple #[.agg #[.int .i64 c0, .int .i64 c1, .int .i64 c2, .bool c3, .bool c4, .bool c5, .int .u64 c6, .int .i64 c7, .int .u64 c8, .int .i64 c9, .int .i64 c10, .int .i64 c11, .int .i64 c12], .int .i64 0]) ∧ Below W.heap.size W w') := fun W => read_yes _ w0 _ hs W
  by_cases q1 : a1 < 0
  · have dq1 : decide (a1 < 0) = true := by simp; omega
    go_enter Try.func6, Try.ntmps6
    go_wp2_with fail
    refine (R1.out _).mono ?_
    rintro e u1 ⟨rfl, hb⟩
    have B1 : Hid (Below w.heap.size w u1) := below_then (Go.Joins.below_alloc1 _ _) hb
    have Z1 : Hid (Blk u1 w.heap.size [.int .u64 x0, .int .u64 x1, .int .u64 x2, .int .u64 x3, .int .u64 x4, .int .u64 x5] 24) := Z0.out.below hb
    clear hb
    have yc0 : u1.cell? ⟨w.heap.size, 0, none⟩ = some (.int .u64 x0) := Z1.out.cell 0
    have yf0 : u1.frozen? ⟨w.heap.size, 0, none⟩ = false := Z1.out.free 0
    have yc1 : u1.cell? ⟨w.heap.size, 1, none⟩ = some (.int .u64 x1) := Z1.out.cell 1
    have yf1 : u1.frozen? ⟨w.heap.size, 1, none⟩ = false := Z1.out.free 1
    have yc2 : u1.cell? ⟨w.heap.size, 2, none⟩ = some (.int .u64 x2) := Z1.out.cell 2
    have yf2 : u1.frozen? ⟨w.heap.size, 2, none⟩ = false := Z1.out.free 2
    have yc3 : u1.cell? ⟨w.heap.size, 3, none⟩ = some (.int .u64 x3) := Z1.out.cell 3
    have yf3 : u1.frozen? ⟨w.heap.size, 3, none⟩ = false := Z1.out.free 3
    have yc4 : u1.cell? ⟨w.heap.size, 4, none⟩ = some (.int .u64 x4) := Z1.out.cell 4
    have yf4 : u1.frozen? ⟨w.heap.size, 4, none⟩ = false := Z1.out.free 4
    have yc5 : u1.cell? ⟨w.heap.size, 5, none⟩ = some (.int .u64 x5) := Z1.out.cell 5
    have yf5 : u1.frozen? ⟨w.heap.size, 5, none⟩ = false := Z1.out.free 5
    have lt1 : w.heap.size < u1.heap.size := blk_lt Z1.out
    go_wp2_with fail
    refine (AWH.out _).mono ?_
    rintro e u9 ⟨rfl, hb⟩
    have B9 : Hid (Below w.heap.size w u9) := below_then (below_new B1.out _) hb
    clear hb
    go_wp2_with fail
    go_ret
    exact ⟨rfl, B9.out⟩
  have dq1 : decide (a1 < 0) = false := by simp; omega
  by_cases q2 : 5 < a1
  · have dq2 : decide (5 < a1) = true := by simp; omega
    go_enter Try.func6, Try.ntmps6
    go_wp2_with fail
    refine (R1.out _).mono ?_
    rintro e u1 ⟨rfl, hb⟩
    have B1 : Hid (Below w.heap.size w u1) := below_then (Go.Joins.below_alloc1 _ _) hb
    have Z1 : Hid (Blk u1 w.heap.size [.int .u64 x0, .int .u64 x1, .int .u64 x2, .int .u64 x3, .int .u64 x4, .int .u64 x5] 24) := Z0.out.below hb
    clear hb
    have yc0 : u1.cell? ⟨w.heap.size, 0, none⟩ = some (.int .u64 x0) := Z1.out.cell 0
    have yf0 : u1.frozen? ⟨w.heap.size, 0, none⟩ = false := Z1.out.free 0
    have yc1 : u1.cell? ⟨w.heap.size, 1, none⟩ = some (.int .u64 x1) := Z1.out.cell 1
    have yf1 : u1.frozen? ⟨w.heap.size, 1, none⟩ = false := Z1.out.free 1
    have yc2 : u1.cell? ⟨w.heap.size, 2, none⟩ = some (.int .u64 x2) := Z1.out.cell 2
    have yf2 : u1.frozen? ⟨w.heap.size, 2, none⟩ = false := Z1.out.free 2
    have yc3 : u1.cell? ⟨w.heap.size, 3, none⟩ = some (.int .u64 x3) := Z1.out.cell 3
    have yf3 : u1.frozen? ⟨w.heap.size, 3, none⟩ = false := Z1.out.free 3
    have yc4 : u1.cell? ⟨w.heap.size, 4, none⟩ = some (.int .u64 x4) := Z1.out.cell 4
    have yf4 : u1.frozen? ⟨w.heap.size, 4, none⟩ = false := Z1.out.free 4
    have yc5 : u1.cell? ⟨w.heap.size, 5, none⟩ = some (.int .u64 x5) := Z1.out.cell 5
    have yf5 : u1.frozen? ⟨w.heap.size, 5, none⟩ = false := Z1.out.free 5
    have lt1 : w.heap.size < u1.heap.size := blk_lt Z1.out
    go_wp2_with fail
    refine (AWH.out _).mono ?_
    rintro e u9 ⟨rfl, hb⟩
    have B9 : Hid (Below w.heap.size w u9) := below_then (below_new B1.out _) hb
    clear hb
    go_wp2_with fail
    go_ret
    exact ⟨rfl, B9.out⟩
  have dq2 : decide (5 < a1) = false := by simp; omega
  by_cases q3 : a2 < 0
  · have dq3 : decide (a2 < 0) = true := by simp; omega
    go_enter Try.func6, Try.ntmps6
    go_wp2_with fail
    refine (R1.out _).mono ?_
    rintro e u1 ⟨rfl, hb⟩
    have B1 : Hid (Below w.heap.size w u1) := below_then (Go.Joins.below_alloc1 _ _) hb
    have Z1 : Hid (Blk u1 w.heap.size [.int .u64 x0, .int .u64 x1, .int .u64 x2, .int .u64 x3, .int .u64 x4, .int .u64 x5] 24) := Z0.out.below hb
    clear hb
    have yc0 : u1.cell? ⟨w.heap.size, 0, none⟩ = some (.int .u64 x0) := Z1.out.cell 0
    have yf0 : u1.frozen? ⟨w.heap.size, 0, none⟩ = false := Z1.out.free 0
    have yc1 : u1.cell? ⟨w.heap.size, 1, none⟩ = some (.int .u64 x1) := Z1.out.cell 1
    have yf1 : u1.frozen? ⟨w.heap.size, 1, none⟩ = false := Z1.out.free 1
    have yc2 : u1.cell? ⟨w.heap.size, 2, none⟩ = some (.int .u64 x2) := Z1.out.cell 2
    have yf2 : u1.frozen? ⟨w.heap.size, 2, none⟩ = false := Z1.out.free 2
    have yc3 : u1.cell? ⟨w.heap.size, 3, none⟩ = some (.int .u64 x3) := Z1.out.cell 3
    have yf3 : u1.frozen? ⟨w.heap.size, 3, none⟩ = false := Z1.out.free 3
    have yc4 : u1.cell? ⟨w.heap.size, 4, none⟩ = some (.int .u64 x4) := Z1.out.cell 4
    have yf4 : u1.frozen? ⟨w.heap.size, 4, none⟩ = false := Z1.out.free 4
    have yc5 : u1.cell? ⟨w.heap.size, 5, none⟩ = some (.int .u64 x5) := Z1.out.cell 5
    have yf5 : u1.frozen? ⟨w.heap.size, 5, none⟩ = false := Z1.out.free 5
    have lt1 : w.heap.size < u1.heap.size := blk_lt Z1.out
    go_wp2_with fail
    refine (AWH.out _).mono ?_
    rintro e u9 ⟨rfl, hb⟩
    have B9 : Hid (Below w.heap.size w u9) := below_then (below_new B1.out _) hb
    clear hb
    go_wp2_with fail
    go_ret
    exact ⟨rfl, B9.out⟩
  have dq3 : decide (a2 < 0) = false := by simp; omega
  by_cases q4 : 63 < a2
  · have dq4 : decide (63 < a2) = true := by simp; omega
    go_enter Try.func6, Try.ntmps6
    go_wp2_with fail
    refine (R1.out _).mono ?_
    rintro e u1 ⟨rfl, hb⟩
    have B1 : Hid (Below w.heap.size w u1) := below_then (Go.Joins.below_alloc1 _ _) hb
    have Z1 : Hid (Blk u1 w.heap.size [.int .u64 x0, .int .u64 x1, .int .u64 x2, .int .u64 x3, .int .u64 x4, .int .u64 x5] 24) := Z0.out.below hb
    clear hb
    have yc0 : u1.cell? ⟨w.heap.size, 0, none⟩ = some (.int .u64 x0) := Z1.out.cell 0
    have yf0 : u1.frozen? ⟨w.heap.size, 0, none⟩ = false := Z1.out.free 0
    have yc1 : u1.cell? ⟨w.heap.size, 1, none⟩ = some (.int .u64 x1) := Z1.out.cell 1
    have yf1 : u1.frozen? ⟨w.heap.size, 1, none⟩ = false := Z1.out.free 1
    have yc2 : u1.cell? ⟨w.heap.size, 2, none⟩ = some (.int .u64 x2) := Z1.out.cell 2
    have yf2 : u1.frozen? ⟨w.heap.size, 2, none⟩ = false := Z1.out.free 2
    have yc3 : u1.cell? ⟨w.heap.size, 3, none⟩ = some (.int .u64 x3) := Z1.out.cell 3
    have yf3 : u1.frozen? ⟨w.heap.size, 3, none⟩ = false := Z1.out.free 3
    have yc4 : u1.cell? ⟨w.heap.size, 4, none⟩ = some (.int .u64 x4) := Z1.out.cell 4
    have yf4 : u1.frozen? ⟨w.heap.size, 4, none⟩ = false := Z1.out.free 4
    have yc5 : u1.cell? ⟨w.heap.size, 5, none⟩ = some (.int .u64 x5) := Z1.out.cell 5
    have yf5 : u1.frozen? ⟨w.heap.size, 5, none⟩ = false := Z1.out.free 5
    have lt1 : w.heap.size < u1.heap.size := blk_lt Z1.out
    go_wp2_with fail
    refine (AWH.out _).mono ?_
    rintro e u9 ⟨rfl, hb⟩
    have B9 : Hid (Below w.heap.size w u9) := below_then (below_new B1.out _) hb
    clear hb
    go_wp2_with fail
    go_ret
    exact ⟨rfl, B9.out⟩
  have dq4 : decide (63 < a2) = false := by simp; omega
  obtain ⟨n, rfl⟩ : ∃ n : Nat, a2 = n := ⟨a2.toNat, by omega⟩
  have n63 : n ≤ 63 := by omega
  obtain ⟨s0, s1⟩ := pow_lt n n63
  have xs := fun k : Nat => xor_ne ((Wd.mk x0 x1 x2 x3 x4 x5).at k) (2 ^ n) (w0 k).1 (w0 k).2 s0 s1
  generalize hsn : (2 : Int) ^ n = s at s0 s1 xs
  have hat : a1 = 0 ∨ a1 = 1 ∨ a1 = 2 ∨ a1 = 3 ∨ a1 = 4 ∨ a1 = 5 := by omega
  rcases hat with rfl | rfl | rfl | rfl | rfl | rfl
  · obtain ⟨g0, g1, g2⟩ := xs 0
    have g0' : 0 ≤ bits .xor .u64 x0 s := g0
    have g1' : bits .xor .u64 x0 s < 18446744073709551616 := g1
    have g2' : bits .xor .u64 x0 s ≠ x0 := g2
    clear g0 g1 g2 xs
    generalize hy : bits .xor .u64 x0 s = y at g0' g1' g2'
    have wf2 : (Wd.mk y x1 x2 x3 x4 x5).wf := fun k => by
      match k with
      | 0 => exact ⟨g0', g1'⟩
      | 1 => exact w0 1
      | 2 => exact w0 2
      | 3 => exact w0 3
      | 4 => exact w0 4
      | 5 => exact w0 5
      | k + 6 => exact w0 (k + 6)
    by_cases hd : ∃ d, Says ⟨y, x1, x2, x3, x4, x5⟩ d
    · obtain ⟨d, hd⟩ := hd
      have cd : ¬ d = ⟨c0, c1, c2, c3, c4, c5, c6, c7, c8, c9, c10, c11, c12⟩ := fun e => by
        rw [e] at hd
        have := says_inj w0 wf2 hs hd
        injection this with e0 e1 e2 e3 e4 e5
        first | exact g2' e0.symm | exact g2' e0
      obtain ⟨d0, d1, d2, d3, d4, d5, d6, d7, d8, d9, d10, d11, d12⟩ := d
      have R2 : Hid (∀ W : World, Calls Try.prog 9 #[.agg #[.int .u64 y, .int .u64 x1, .int .u64 x2, .int .u64 x3, .int .u64 x4, .int .u64 x5]] W fun e w' => e = .returned (.tuple #[.agg #[.int .i64 d0, .int .i64 d1, .int .i64 d2, .bool d3, .bool d4, .bool d5, .int .u64 d6, .int .i64 d7, .int .u64 d8, .int .i64 d9, .int .i64 d10, .int .i64 d11, .int .i64 d12], .int .i64 0]) ∧ Below W.heap.size W w') := fun W => read_yes _ wf2 _ hd W
      have NE : ∀ W : World, (binOp .neq 30 (.agg #[.int .i64 d0, .int .i64 d1, .int .i64 d2, .bool d3, .bool d4, .bool d5, .int .u64 d6, .int .i64 d7, .int .u64 d8, .int .i64 d9, .int .i64 d10, .int .i64 d11, .int .i64 d12]) (.agg #[.int .i64 c0, .int .i64 c1, .int .i64 c2, .bool c3, .bool c4, .bool c5, .int .u64 c6, .int .i64 c7, .int .u64 c8, .int .i64 c9, .int .i64 c10, .int .i64 c11, .int .i64 c12])).run Try.prog W = .ok (.bool true) W := fun W => by
        have := neC ⟨d0, d1, d2, d3, d4, d5, d6, d7, d8, d9, d10, d11, d12⟩ ⟨c0, c1, c2, c3, c4, c5, c6, c7, c8, c9, c10, c11, c12⟩ W
        rw [decide_eq_false cd] at this
        exact this
      exact bitY0 x0 x1 x2 x3 x4 x5 c0 c1 c2 c6 c7 c8 c9 c10 c11 c12 c3 c4 c5 d0 d1 d2 d6 d7 d8 d9 d10 d11 d12 d3 d4 d5 n s y n63 s0 s1 hsn hy g0' g1' w R1 R2 NE
    · have R2 : Hid (∀ W : World, Calls Try.prog 9 #[.agg #[.int .u64 y, .int .u64 x1, .int .u64 x2, .int .u64 x3, .int .u64 x4, .int .u64 x5]] W fun e w' => e = .returned (.tuple #[.agg #[.int .i64 0, .int .i64 0, .int .i64 0, .bool false, .bool false, .bool false, .int .u64 0, .int .i64 0, .int .u64 0, .int .i64 0, .int .i64 0, .int .i64 0, .int .i64 0], .int .i64 13]) ∧ Below W.heap.size W w') := fun W => read_no _ wf2 hd W
      exact bitN0 x0 x1 x2 x3 x4 x5 c0 c1 c2 c6 c7 c8 c9 c10 c11 c12 c3 c4 c5 n s y n63 s0 s1 hsn hy g0' g1' w R1 R2
  · obtain ⟨g0, g1, g2⟩ := xs 1
    have g0' : 0 ≤ bits .xor .u64 x1 s := g0
    have g1' : bits .xor .u64 x1 s < 18446744073709551616 := g1
    have g2' : bits .xor .u64 x1 s ≠ x1 := g2
    clear g0 g1 g2 xs
    generalize hy : bits .xor .u64 x1 s = y at g0' g1' g2'
    have wf2 : (Wd.mk x0 y x2 x3 x4 x5).wf := fun k => by
      match k with
      | 0 => exact w0 0
      | 1 => exact ⟨g0', g1'⟩
      | 2 => exact w0 2
      | 3 => exact w0 3
      | 4 => exact w0 4
      | 5 => exact w0 5
      | k + 6 => exact w0 (k + 6)
    by_cases hd : ∃ d, Says ⟨x0, y, x2, x3, x4, x5⟩ d
    · obtain ⟨d, hd⟩ := hd
      have cd : ¬ d = ⟨c0, c1, c2, c3, c4, c5, c6, c7, c8, c9, c10, c11, c12⟩ := fun e => by
        rw [e] at hd
        have := says_inj w0 wf2 hs hd
        injection this with e0 e1 e2 e3 e4 e5
        first | exact g2' e1.symm | exact g2' e1
      obtain ⟨d0, d1, d2, d3, d4, d5, d6, d7, d8, d9, d10, d11, d12⟩ := d
      have R2 : Hid (∀ W : World, Calls Try.prog 9 #[.agg #[.int .u64 x0, .int .u64 y, .int .u64 x2, .int .u64 x3, .int .u64 x4, .int .u64 x5]] W fun e w' => e = .returned (.tuple #[.agg #[.int .i64 d0, .int .i64 d1, .int .i64 d2, .bool d3, .bool d4, .bool d5, .int .u64 d6, .int .i64 d7, .int .u64 d8, .int .i64 d9, .int .i64 d10, .int .i64 d11, .int .i64 d12], .int .i64 0]) ∧ Below W.heap.size W w') := fun W => read_yes _ wf2 _ hd W
      have NE : ∀ W : World, (binOp .neq 30 (.agg #[.int .i64 d0, .int .i64 d1, .int .i64 d2, .bool d3, .bool d4, .bool d5, .int .u64 d6, .int .i64 d7, .int .u64 d8, .int .i64 d9, .int .i64 d10, .int .i64 d11, .int .i64 d12]) (.agg #[.int .i64 c0, .int .i64 c1, .int .i64 c2, .bool c3, .bool c4, .bool c5, .int .u64 c6, .int .i64 c7, .int .u64 c8, .int .i64 c9, .int .i64 c10, .int .i64 c11, .int .i64 c12])).run Try.prog W = .ok (.bool true) W := fun W => by
        have := neC ⟨d0, d1, d2, d3, d4, d5, d6, d7, d8, d9, d10, d11, d12⟩ ⟨c0, c1, c2, c3, c4, c5, c6, c7, c8, c9, c10, c11, c12⟩ W
        rw [decide_eq_false cd] at this
        exact this
      exact bitY1 x0 x1 x2 x3 x4 x5 c0 c1 c2 c6 c7 c8 c9 c10 c11 c12 c3 c4 c5 d0 d1 d2 d6 d7 d8 d9 d10 d11 d12 d3 d4 d5 n s y n63 s0 s1 hsn hy g0' g1' w R1 R2 NE
    · have R2 : Hid (∀ W : World, Calls Try.prog 9 #[.agg #[.int .u64 x0, .int .u64 y, .int .u64 x2, .int .u64 x3, .int .u64 x4, .int .u64 x5]] W fun e w' => e = .returned (.tuple #[.agg #[.int .i64 0, .int .i64 0, .int .i64 0, .bool false, .bool false, .bool false, .int .u64 0, .int .i64 0, .int .u64 0, .int .i64 0, .int .i64 0, .int .i64 0, .int .i64 0], .int .i64 13]) ∧ Below W.heap.size W w') := fun W => read_no _ wf2 hd W
      exact bitN1 x0 x1 x2 x3 x4 x5 c0 c1 c2 c6 c7 c8 c9 c10 c11 c12 c3 c4 c5 n s y n63 s0 s1 hsn hy g0' g1' w R1 R2
  · obtain ⟨g0, g1, g2⟩ := xs 2
    have g0' : 0 ≤ bits .xor .u64 x2 s := g0
    have g1' : bits .xor .u64 x2 s < 18446744073709551616 := g1
    have g2' : bits .xor .u64 x2 s ≠ x2 := g2
    clear g0 g1 g2 xs
    generalize hy : bits .xor .u64 x2 s = y at g0' g1' g2'
    have wf2 : (Wd.mk x0 x1 y x3 x4 x5).wf := fun k => by
      match k with
      | 0 => exact w0 0
      | 1 => exact w0 1
      | 2 => exact ⟨g0', g1'⟩
      | 3 => exact w0 3
      | 4 => exact w0 4
      | 5 => exact w0 5
      | k + 6 => exact w0 (k + 6)
    by_cases hd : ∃ d, Says ⟨x0, x1, y, x3, x4, x5⟩ d
    · obtain ⟨d, hd⟩ := hd
      have cd : ¬ d = ⟨c0, c1, c2, c3, c4, c5, c6, c7, c8, c9, c10, c11, c12⟩ := fun e => by
        rw [e] at hd
        have := says_inj w0 wf2 hs hd
        injection this with e0 e1 e2 e3 e4 e5
        first | exact g2' e2.symm | exact g2' e2
      obtain ⟨d0, d1, d2, d3, d4, d5, d6, d7, d8, d9, d10, d11, d12⟩ := d
      have R2 : Hid (∀ W : World, Calls Try.prog 9 #[.agg #[.int .u64 x0, .int .u64 x1, .int .u64 y, .int .u64 x3, .int .u64 x4, .int .u64 x5]] W fun e w' => e = .returned (.tuple #[.agg #[.int .i64 d0, .int .i64 d1, .int .i64 d2, .bool d3, .bool d4, .bool d5, .int .u64 d6, .int .i64 d7, .int .u64 d8, .int .i64 d9, .int .i64 d10, .int .i64 d11, .int .i64 d12], .int .i64 0]) ∧ Below W.heap.size W w') := fun W => read_yes _ wf2 _ hd W
      have NE : ∀ W : World, (binOp .neq 30 (.agg #[.int .i64 d0, .int .i64 d1, .int .i64 d2, .bool d3, .bool d4, .bool d5, .int .u64 d6, .int .i64 d7, .int .u64 d8, .int .i64 d9, .int .i64 d10, .int .i64 d11, .int .i64 d12]) (.agg #[.int .i64 c0, .int .i64 c1, .int .i64 c2, .bool c3, .bool c4, .bool c5, .int .u64 c6, .int .i64 c7, .int .u64 c8, .int .i64 c9, .int .i64 c10, .int .i64 c11, .int .i64 c12])).run Try.prog W = .ok (.bool true) W := fun W => by
        have := neC ⟨d0, d1, d2, d3, d4, d5, d6, d7, d8, d9, d10, d11, d12⟩ ⟨c0, c1, c2, c3, c4, c5, c6, c7, c8, c9, c10, c11, c12⟩ W
        rw [decide_eq_false cd] at this
        exact this
      exact bitY2 x0 x1 x2 x3 x4 x5 c0 c1 c2 c6 c7 c8 c9 c10 c11 c12 c3 c4 c5 d0 d1 d2 d6 d7 d8 d9 d10 d11 d12 d3 d4 d5 n s y n63 s0 s1 hsn hy g0' g1' w R1 R2 NE
    · have R2 : Hid (∀ W : World, Calls Try.prog 9 #[.agg #[.int .u64 x0, .int .u64 x1, .int .u64 y, .int .u64 x3, .int .u64 x4, .int .u64 x5]] W fun e w' => e = .returned (.tuple #[.agg #[.int .i64 0, .int .i64 0, .int .i64 0, .bool false, .bool false, .bool false, .int .u64 0, .int .i64 0, .int .u64 0, .int .i64 0, .int .i64 0, .int .i64 0, .int .i64 0], .int .i64 13]) ∧ Below W.heap.size W w') := fun W => read_no _ wf2 hd W
      exact bitN2 x0 x1 x2 x3 x4 x5 c0 c1 c2 c6 c7 c8 c9 c10 c11 c12 c3 c4 c5 n s y n63 s0 s1 hsn hy g0' g1' w R1 R2
  · obtain ⟨g0, g1, g2⟩ := xs 3
    have g0' : 0 ≤ bits .xor .u64 x3 s := g0
    have g1' : bits .xor .u64 x3 s < 18446744073709551616 := g1
    have g2' : bits .xor .u64 x3 s ≠ x3 := g2
    clear g0 g1 g2 xs
    generalize hy : bits .xor .u64 x3 s = y at g0' g1' g2'
    have wf2 : (Wd.mk x0 x1 x2 y x4 x5).wf := fun k => by
      match k with
      | 0 => exact w0 0
      | 1 => exact w0 1
      | 2 => exact w0 2
      | 3 => exact ⟨g0', g1'⟩
      | 4 => exact w0 4
      | 5 => exact w0 5
      | k + 6 => exact w0 (k + 6)
    by_cases hd : ∃ d, Says ⟨x0, x1, x2, y, x4, x5⟩ d
    · obtain ⟨d, hd⟩ := hd
      have cd : ¬ d = ⟨c0, c1, c2, c3, c4, c5, c6, c7, c8, c9, c10, c11, c12⟩ := fun e => by
        rw [e] at hd
        have := says_inj w0 wf2 hs hd
        injection this with e0 e1 e2 e3 e4 e5
        first | exact g2' e3.symm | exact g2' e3
      obtain ⟨d0, d1, d2, d3, d4, d5, d6, d7, d8, d9, d10, d11, d12⟩ := d
      have R2 : Hid (∀ W : World, Calls Try.prog 9 #[.agg #[.int .u64 x0, .int .u64 x1, .int .u64 x2, .int .u64 y, .int .u64 x4, .int .u64 x5]] W fun e w' => e = .returned (.tuple #[.agg #[.int .i64 d0, .int .i64 d1, .int .i64 d2, .bool d3, .bool d4, .bool d5, .int .u64 d6, .int .i64 d7, .int .u64 d8, .int .i64 d9, .int .i64 d10, .int .i64 d11, .int .i64 d12], .int .i64 0]) ∧ Below W.heap.size W w') := fun W => read_yes _ wf2 _ hd W
      have NE : ∀ W : World, (binOp .neq 30 (.agg #[.int .i64 d0, .int .i64 d1, .int .i64 d2, .bool d3, .bool d4, .bool d5, .int .u64 d6, .int .i64 d7, .int .u64 d8, .int .i64 d9, .int .i64 d10, .int .i64 d11, .int .i64 d12]) (.agg #[.int .i64 c0, .int .i64 c1, .int .i64 c2, .bool c3, .bool c4, .bool c5, .int .u64 c6, .int .i64 c7, .int .u64 c8, .int .i64 c9, .int .i64 c10, .int .i64 c11, .int .i64 c12])).run Try.prog W = .ok (.bool true) W := fun W => by
        have := neC ⟨d0, d1, d2, d3, d4, d5, d6, d7, d8, d9, d10, d11, d12⟩ ⟨c0, c1, c2, c3, c4, c5, c6, c7, c8, c9, c10, c11, c12⟩ W
        rw [decide_eq_false cd] at this
        exact this
      exact bitY3 x0 x1 x2 x3 x4 x5 c0 c1 c2 c6 c7 c8 c9 c10 c11 c12 c3 c4 c5 d0 d1 d2 d6 d7 d8 d9 d10 d11 d12 d3 d4 d5 n s y n63 s0 s1 hsn hy g0' g1' w R1 R2 NE
    · have R2 : Hid (∀ W : World, Calls Try.prog 9 #[.agg #[.int .u64 x0, .int .u64 x1, .int .u64 x2, .int .u64 y, .int .u64 x4, .int .u64 x5]] W fun e w' => e = .returned (.tuple #[.agg #[.int .i64 0, .int .i64 0, .int .i64 0, .bool false, .bool false, .bool false, .int .u64 0, .int .i64 0, .int .u64 0, .int .i64 0, .int .i64 0, .int .i64 0, .int .i64 0], .int .i64 13]) ∧ Below W.heap.size W w') := fun W => read_no _ wf2 hd W
      exact bitN3 x0 x1 x2 x3 x4 x5 c0 c1 c2 c6 c7 c8 c9 c10 c11 c12 c3 c4 c5 n s y n63 s0 s1 hsn hy g0' g1' w R1 R2
  · obtain ⟨g0, g1, g2⟩ := xs 4
    have g0' : 0 ≤ bits .xor .u64 x4 s := g0
    have g1' : bits .xor .u64 x4 s < 18446744073709551616 := g1
    have g2' : bits .xor .u64 x4 s ≠ x4 := g2
    clear g0 g1 g2 xs
    generalize hy : bits .xor .u64 x4 s = y at g0' g1' g2'
    have wf2 : (Wd.mk x0 x1 x2 x3 y x5).wf := fun k => by
      match k with
      | 0 => exact w0 0
      | 1 => exact w0 1
      | 2 => exact w0 2
      | 3 => exact w0 3
      | 4 => exact ⟨g0', g1'⟩
      | 5 => exact w0 5
      | k + 6 => exact w0 (k + 6)
    by_cases hd : ∃ d, Says ⟨x0, x1, x2, x3, y, x5⟩ d
    · obtain ⟨d, hd⟩ := hd
      have cd : ¬ d = ⟨c0, c1, c2, c3, c4, c5, c6, c7, c8, c9, c10, c11, c12⟩ := fun e => by
        rw [e] at hd
        have := says_inj w0 wf2 hs hd
        injection this with e0 e1 e2 e3 e4 e5
        first | exact g2' e4.symm | exact g2' e4
      obtain ⟨d0, d1, d2, d3, d4, d5, d6, d7, d8, d9, d10, d11, d12⟩ := d
      have R2 : Hid (∀ W : World, Calls Try.prog 9 #[.agg #[.int .u64 x0, .int .u64 x1, .int .u64 x2, .int .u64 x3, .int .u64 y, .int .u64 x5]] W fun e w' => e = .returned (.tuple #[.agg #[.int .i64 d0, .int .i64 d1, .int .i64 d2, .bool d3, .bool d4, .bool d5, .int .u64 d6, .int .i64 d7, .int .u64 d8, .int .i64 d9, .int .i64 d10, .int .i64 d11, .int .i64 d12], .int .i64 0]) ∧ Below W.heap.size W w') := fun W => read_yes _ wf2 _ hd W
      have NE : ∀ W : World, (binOp .neq 30 (.agg #[.int .i64 d0, .int .i64 d1, .int .i64 d2, .bool d3, .bool d4, .bool d5, .int .u64 d6, .int .i64 d7, .int .u64 d8, .int .i64 d9, .int .i64 d10, .int .i64 d11, .int .i64 d12]) (.agg #[.int .i64 c0, .int .i64 c1, .int .i64 c2, .bool c3, .bool c4, .bool c5, .int .u64 c6, .int .i64 c7, .int .u64 c8, .int .i64 c9, .int .i64 c10, .int .i64 c11, .int .i64 c12])).run Try.prog W = .ok (.bool true) W := fun W => by
        have := neC ⟨d0, d1, d2, d3, d4, d5, d6, d7, d8, d9, d10, d11, d12⟩ ⟨c0, c1, c2, c3, c4, c5, c6, c7, c8, c9, c10, c11, c12⟩ W
        rw [decide_eq_false cd] at this
        exact this
      exact bitY4 x0 x1 x2 x3 x4 x5 c0 c1 c2 c6 c7 c8 c9 c10 c11 c12 c3 c4 c5 d0 d1 d2 d6 d7 d8 d9 d10 d11 d12 d3 d4 d5 n s y n63 s0 s1 hsn hy g0' g1' w R1 R2 NE
    · have R2 : Hid (∀ W : World, Calls Try.prog 9 #[.agg #[.int .u64 x0, .int .u64 x1, .int .u64 x2, .int .u64 x3, .int .u64 y, .int .u64 x5]] W fun e w' => e = .returned (.tuple #[.agg #[.int .i64 0, .int .i64 0, .int .i64 0, .bool false, .bool false, .bool false, .int .u64 0, .int .i64 0, .int .u64 0, .int .i64 0, .int .i64 0, .int .i64 0, .int .i64 0], .int .i64 13]) ∧ Below W.heap.size W w') := fun W => read_no _ wf2 hd W
      exact bitN4 x0 x1 x2 x3 x4 x5 c0 c1 c2 c6 c7 c8 c9 c10 c11 c12 c3 c4 c5 n s y n63 s0 s1 hsn hy g0' g1' w R1 R2
  · obtain ⟨g0, g1, g2⟩ := xs 5
    have g0' : 0 ≤ bits .xor .u64 x5 s := g0
    have g1' : bits .xor .u64 x5 s < 18446744073709551616 := g1
    have g2' : bits .xor .u64 x5 s ≠ x5 := g2
    clear g0 g1 g2 xs
    generalize hy : bits .xor .u64 x5 s = y at g0' g1' g2'
    have wf2 : (Wd.mk x0 x1 x2 x3 x4 y).wf := fun k => by
      match k with
      | 0 => exact w0 0
      | 1 => exact w0 1
      | 2 => exact w0 2
      | 3 => exact w0 3
      | 4 => exact w0 4
      | 5 => exact ⟨g0', g1'⟩
      | k + 6 => exact w0 (k + 6)
    by_cases hd : ∃ d, Says ⟨x0, x1, x2, x3, x4, y⟩ d
    · obtain ⟨d, hd⟩ := hd
      have cd : ¬ d = ⟨c0, c1, c2, c3, c4, c5, c6, c7, c8, c9, c10, c11, c12⟩ := fun e => by
        rw [e] at hd
        have := says_inj w0 wf2 hs hd
        injection this with e0 e1 e2 e3 e4 e5
        first | exact g2' e5.symm | exact g2' e5
      obtain ⟨d0, d1, d2, d3, d4, d5, d6, d7, d8, d9, d10, d11, d12⟩ := d
      have R2 : Hid (∀ W : World, Calls Try.prog 9 #[.agg #[.int .u64 x0, .int .u64 x1, .int .u64 x2, .int .u64 x3, .int .u64 x4, .int .u64 y]] W fun e w' => e = .returned (.tuple #[.agg #[.int .i64 d0, .int .i64 d1, .int .i64 d2, .bool d3, .bool d4, .bool d5, .int .u64 d6, .int .i64 d7, .int .u64 d8, .int .i64 d9, .int .i64 d10, .int .i64 d11, .int .i64 d12], .int .i64 0]) ∧ Below W.heap.size W w') := fun W => read_yes _ wf2 _ hd W
      have NE : ∀ W : World, (binOp .neq 30 (.agg #[.int .i64 d0, .int .i64 d1, .int .i64 d2, .bool d3, .bool d4, .bool d5, .int .u64 d6, .int .i64 d7, .int .u64 d8, .int .i64 d9, .int .i64 d10, .int .i64 d11, .int .i64 d12]) (.agg #[.int .i64 c0, .int .i64 c1, .int .i64 c2, .bool c3, .bool c4, .bool c5, .int .u64 c6, .int .i64 c7, .int .u64 c8, .int .i64 c9, .int .i64 c10, .int .i64 c11, .int .i64 c12])).run Try.prog W = .ok (.bool true) W := fun W => by
        have := neC ⟨d0, d1, d2, d3, d4, d5, d6, d7, d8, d9, d10, d11, d12⟩ ⟨c0, c1, c2, c3, c4, c5, c6, c7, c8, c9, c10, c11, c12⟩ W
        rw [decide_eq_false cd] at this
        exact this
      exact bitY5 x0 x1 x2 x3 x4 x5 c0 c1 c2 c6 c7 c8 c9 c10 c11 c12 c3 c4 c5 d0 d1 d2 d6 d7 d8 d9 d10 d11 d12 d3 d4 d5 n s y n63 s0 s1 hsn hy g0' g1' w R1 R2 NE
    · have R2 : Hid (∀ W : World, Calls Try.prog 9 #[.agg #[.int .u64 x0, .int .u64 x1, .int .u64 x2, .int .u64 x3, .int .u64 x4, .int .u64 y]] W fun e w' => e = .returned (.tuple #[.agg #[.int .i64 0, .int .i64 0, .int .i64 0, .bool false, .bool false, .bool false, .int .u64 0, .int .i64 0, .int .u64 0, .int .i64 0, .int .i64 0, .int .i64 0, .int .i64 0], .int .i64 13]) ∧ Below W.heap.size W w') := fun W => read_no _ wf2 hd W
      exact bitN5 x0 x1 x2 x3 x4 x5 c0 c1 c2 c6 c7 c8 c9 c10 c11 c12 c3 c4 c5 n s y n63 s0 s1 hsn hy g0' g1' w R1 R2

theorem own : ownKnob Try.prog.godebug = none := by kernel_rfl
theorem laidOut : laidOutB Try.prog = true := by kernel_rfl
set_option maxRecDepth 100000 in
theorem lifted (os : Os) (started : os.Started) (H : Type) (enc : TypeId × Value → H) :
    ReturnsInHanded {} Try.checked os 6 .any (Rows.callBitsSpec.pre6 enc Try.prog Try.f6 Rows.callBitsRow.domain false) (Rows.callBitsSpec.post enc Try.prog Try.f6 false true false false) := by
  refine returnsInHanded_of_change (C := Try.checked) own started (by kernel_rfl) Try.func6
    (ChangeSpec.witness6 (enc := enc) (C := Try.checked) false ⟨#[], #[.agg #[.int .u64 0, .int .u64 0, .int .u64 0, .int .u64 0, .int .u64 0, .int .u64 0], .int .i64 0, .int .i64 0], []⟩ 8 (by kernel_rfl) (by kernel_rfl) (by kernel_rfl) (by kernel_rfl)) ?_
  intro W base args ds gs before hval0 hW hcnd _
  have hval : ∀ (j : Nat) t v, Try.f6.params[j]? = some t → args[j]? = some v → Value.okWide Try.prog W .any base t v := hval0
  have hW' := hW
  obtain ⟨p, q, hA0, hV, hbef, hfz, hnd⟩ := hW
  have hA : DataW.TrodAll enc Try.prog W 0 (fun _ => true) true Try.f6.params.toList args.toList ds p := hA0
  have hAk := hA
  have hlt : ∀ x ∈ p, x.block < W.heap.size := fun x hx => hW'.lt x (by rw [hbef]; exact List.mem_append_left _ hx)
  rw [Try.params6] at hA hval
  obtain ⟨v0, vs0, d0, ds0, p0, q0, hargs, rfl, hp0, h0, r0⟩ := trodAll_cons hA
  obtain ⟨v1, vs1, d1, ds1, p1, q1, rfl, rfl, hp1, h1, r1⟩ := trodAll_cons r0
  obtain ⟨v2, vs2, d2, ds2, p2, q2, rfl, rfl, hp2, h2, r2⟩ := trodAll_cons r1
  obtain ⟨rfl, rfl, hpz⟩ := trodAll_nil r2
  obtain rfl : args = #[v0, v1, v2] := by cases args; simp_all
  obtain ⟨rfl, rfl⟩ := trodVars_none hV
  obtain ⟨D0, rfl, w0⟩ := open_wd (hval 0 24 v0 rfl rfl) h0
  obtain ⟨a1, rfl, _, _, w1⟩ := open_int Try.underlying3 (hval 1 3 v1 rfl rfl) h1
  obtain ⟨a2, rfl, _, _, w2⟩ := open_int Try.underlying3 (hval 2 3 v2 rfl rfl) h2
  clear hA0 hval0
  refine (walk D0 w0 a1 w1 a2 w2 W ).mono fun e W' ⟨he, hg⟩ => ?_
  subst he
  exact ⟨_, rfl, ⟨_, _, _, [], p, [], hW', (trodAll_cons_mk (shut_bool Try.underlying4 _) trodAll_mk0), args_stay laidOut hg (by kernel_rfl) hAk hlt, rfl, hg.frame _, fun h => by cases h⟩⟩

theorem over : Rows.callBitsRow.holds Try.pinned (OpenSpec.ofChange Rows.callBitsSpec) :=
  OpenClaim.holds_of_wide 6 Try.f6 rfl rfl rfl rfl rfl rfl rfl ⟨rfl, rfl, rfl, rfl, rfl⟩ rfl rfl rfl rfl rfl (by kernel_rfl) Try.func6 (by kernel_rfl)
    (of_decide_eq_true (by kernel_rfl)) (by unfold Func.isWrapper; first | (rw [if_pos (by decide +kernel)]; kernel_rfl) | (rw [if_neg (by decide +kernel)]; exact ⟨rfl, rfl⟩))
    (fun os started H enc _ => lifted os started H enc)

theorem proved : Rows.CallBitsSaid :=
  over
#print axioms proved
end Go.Proofs.Ytccbacjiiffheaa.callBits
