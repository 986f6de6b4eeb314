/- areRegisters, of one number and of three. -/
import Derived.Test.YtcieglidghnidaaA1
namespace Go.Proofs.Ytcieglidghnidaa
open Go.ChangeShapes Go.WideShapes Go.ChangeAt Go.RowKit Go.Maps
set_option linter.unusedSimpArgs false
set_option linter.unusedVariables false

set_option maxHeartbeats 1000000 in
theorem regs1_y (x : Int) (hx : 0 ≤ x ∧ x < 4) (b : Nat) (w : World) (c0 : w.cell? ⟨b, 0, none⟩ = some (.int .i64 x)) : Calls Try.prog 21 #[.slice (some ⟨b, 0, none⟩) 1 1] w fun e w' => e = .returned (.bool true) ∧ w' = w := by
  have xa : decide (x < 0) = false := by simp; omega
  have xb : decide (4 ≤ x) = false := by simp; omega
  go_enter Try.func21, Try.ntmps21
  go_wp2_with fail
  refine wp_loop_rounds 3 ?_
  rw [rounds_succ]
  go_wp2_with fail
  rw [rounds_succ]
  go_wp2_with fail
  go_ret
  exact ⟨rfl, rfl⟩
set_option maxHeartbeats 1000000 in
theorem regs1_n (x : Int) (hx : x < 0) (b : Nat) (w : World) (c0 : w.cell? ⟨b, 0, none⟩ = some (.int .i64 x)) : Calls Try.prog 21 #[.slice (some ⟨b, 0, none⟩) 1 1] w fun e w' => e = .returned (.bool false) ∧ w' = w := by
  have xa : decide (x < 0) = true := by simp; omega
  go_enter Try.func21, Try.ntmps21
  go_wp2_with fail
  refine wp_loop_rounds 3 ?_
  rw [rounds_succ]
  go_wp2_with fail
  go_ret
  exact ⟨rfl, rfl⟩
set_option maxHeartbeats 1000000 in
theorem regs1_g (x : Int) (hx : 4 ≤ x) (b : Nat) (w : World) (c0 : w.cell? ⟨b, 0, none⟩ = some (.int .i64 x)) : Calls Try.prog 21 #[.slice (some ⟨b, 0, none⟩) 1 1] w fun e w' => e = .returned (.bool false) ∧ w' = w := by
  have xa : decide (x < 0) = false := by simp; omega
  have xb : decide (4 ≤ x) = true := by simp; omega
  go_enter Try.func21, Try.ntmps21
  go_wp2_with fail
  refine wp_loop_rounds 3 ?_
  rw [rounds_succ]
  go_wp2_with fail
  go_ret
  exact ⟨rfl, rfl⟩
set_option maxHeartbeats 1000000 in
theorem regs3_yyy (x y z : Int) (hx : 0 ≤ x ∧ x < 4) (hy : 0 ≤ y ∧ y < 4) (hz : 0 ≤ z ∧ z < 4) (b : Nat) (w : World) (c0 : w.cell? ⟨b, 0, none⟩ = some (.int .i64 x)) (c1 : w.cell? ⟨b, 1, none⟩ = some (.int .i64 y)) (c2 : w.cell? ⟨b, 2, none⟩ = some (.int .i64 z)) : Calls Try.prog 21 #[.slice (some ⟨b, 0, none⟩) 3 3] w fun e w' => e = .returned (.bool true) ∧ w' = w := by
  have xa : decide (x < 0) = false := by simp; omega
  have xb : decide (4 ≤ x) = false := by simp; omega
  have ya : decide (y < 0) = false := by simp; omega
  have yb : decide (4 ≤ y) = false := by simp; omega
  have za : decide (z < 0) = false := by simp; omega
  have zb : decide (4 ≤ z) = false := by simp; omega
  go_enter Try.func21, Try.ntmps21
  go_wp2_with fail
  refine wp_loop_rounds 5 ?_
  rw [rounds_succ]
  go_wp2_with fail
  rw [rounds_succ]
  go_wp2_with fail
  rw [rounds_succ]
  go_wp2_with fail
  rw [rounds_succ]
  go_wp2_with fail
  go_ret
  exact ⟨rfl, rfl⟩
set_option maxHeartbeats 1000000 in
theorem regs3_n (x y z : Int) (hx : x < 0) (b : Nat) (w : World) (c0 : w.cell? ⟨b, 0, none⟩ = some (.int .i64 x)) (c1 : w.cell? ⟨b, 1, none⟩ = some (.int .i64 y)) (c2 : w.cell? ⟨b, 2, none⟩ = some (.int .i64 z)) : Calls Try.prog 21 #[.slice (some ⟨b, 0, none⟩) 3 3] w fun e w' => e = .returned (.bool false) ∧ w' = w := by
  have xa : decide (x < 0) = true := by simp; omega
  go_enter Try.func21, Try.ntmps21
  go_wp2_with fail
  refine wp_loop_rounds 5 ?_
  rw [rounds_succ]
  go_wp2_with fail
  go_ret
  exact ⟨rfl, rfl⟩
set_option maxHeartbeats 1000000 in
theorem regs3_g (x y z : Int) (hx : 4 ≤ x) (b : Nat) (w : World) (c0 : w.cell? ⟨b, 0, none⟩ = some (.int .i64 x)) (c1 : w.cell? ⟨b, 1, none⟩ = some (.int .i64 y)) (c2 : w.cell? ⟨b, 2, none⟩ = some (.int .i64 z)) : Calls Try.prog 21 #[.slice (some ⟨b, 0, none⟩) 3 3] w fun e w' => e = .returned (.bool false) ∧ w' = w := by
  have xa : decide (x < 0) = false := by simp; omega
  have xb : decide (4 ≤ x) = true := by simp; omega
  go_enter Try.func21, Try.ntmps21
  go_wp2_with fail
  refine wp_loop_rounds 5 ?_
  rw [rounds_succ]
  go_wp2_with fail
  go_ret
  exact ⟨rfl, rfl⟩
set_option maxHeartbeats 1000000 in
theorem regs3_yn (x y z : Int) (hx : 0 ≤ x ∧ x < 4) (hy : y < 0) (b : Nat) (w : World) (c0 : w.cell? ⟨b, 0, none⟩ = some (.int .i64 x)) (c1 : w.cell? ⟨b, 1, none⟩ = some (.int .i64 y)) (c2 : w.cell? ⟨b, 2, none⟩ = some (.int .i64 z)) : Calls Try.prog 21 #[.slice (some ⟨b, 0, none⟩) 3 3] w fun e w' => e = .returned (.bool false) ∧ w' = w := by
  have xa : decide (x < 0) = false := by simp; omega
  have xb : decide (4 ≤ x) = false := by simp; omega
  have ya : decide (y < 0) = true := by simp; omega
  go_enter Try.func21, Try.ntmps21
  go_wp2_with fail
  refine wp_loop_rounds 5 ?_
  rw [rounds_succ]
  go_wp2_with fail
  rw [rounds_succ]
  go_wp2_with fail
  go_ret
  exact ⟨rfl, rfl⟩
set_option maxHeartbeats 1000000 in
theorem regs3_yg (x y z : Int) (hx : 0 ≤ x ∧ x < 4) (hy : 4 ≤ y) (b : Nat) (w : World) (c0 : w.cell? ⟨b, 0, none⟩ = some (.int .i64 x)) (c1 : w.cell? ⟨b, 1, none⟩ = some (.int .i64 y)) (c2 : w.cell? ⟨b, 2, none⟩ = some (.int .i64 z)) : Calls Try.prog 21 #[.slice (some ⟨b, 0, none⟩) 3 3] w fun e w' => e = .returned (.bool false) ∧ w' = w := by
  have xa : decide (x < 0) = false := by simp; omega
  have xb : decide (4 ≤ x) = false := by simp; omega
  have ya : decide (y < 0) = false := by simp; omega
  have yb : decide (4 ≤ y) = true := by simp; omega
  go_enter Try.func21, Try.ntmps21
  go_wp2_with fail
  refine wp_loop_rounds 5 ?_
  rw [rounds_succ]
  go_wp2_with fail
  rw [rounds_succ]
  go_wp2_with fail
  go_ret
  exact ⟨rfl, rfl⟩
set_option maxHeartbeats 1000000 in
theorem regs3_yyn (x y z : Int) (hx : 0 ≤ x ∧ x < 4) (hy : 0 ≤ y ∧ y < 4) (hz : z < 0) (b : Nat) (w : World) (c0 : w.cell? ⟨b, 0, none⟩ = some (.int .i64 x)) (c1 : w.cell? ⟨b, 1, none⟩ = some (.int .i64 y)) (c2 : w.cell? ⟨b, 2, none⟩ = some (.int .i64 z)) : Calls Try.prog 21 #[.slice (some ⟨b, 0, none⟩) 3 3] w fun e w' => e = .returned (.bool false) ∧ w' = w := by
  have xa : decide (x < 0) = false := by simp; omega
  have xb : decide (4 ≤ x) = false := by simp; omega
  have ya : decide (y < 0) = false := by simp; omega
  have yb : decide (4 ≤ y) = false := by simp; omega
  have za : decide (z < 0) = true := by simp; omega
  go_enter Try.func21, Try.ntmps21
  go_wp2_with fail
  refine wp_loop_rounds 5 ?_
  rw [rounds_succ]
  go_wp2_with fail
  rw [rounds_succ]
  go_wp2_with fail
  rw [rounds_succ]
  go_wp2_with fail
  go_ret
  exact ⟨rfl, rfl⟩
set_option maxHeartbeats 1000000 in
theorem regs3_yyg (x y z : Int) (hx : 0 ≤ x ∧ x < 4) (hy : 0 ≤ y ∧ y < 4) (hz : 4 ≤ z) (b : Nat) (w : World) (c0 : w.cell? ⟨b, 0, none⟩ = some (.int .i64 x)) (c1 : w.cell? ⟨b, 1, none⟩ = some (.int .i64 y)) (c2 : w.cell? ⟨b, 2, none⟩ = some (.int .i64 z)) : Calls Try.prog 21 #[.slice (some ⟨b, 0, none⟩) 3 3] w fun e w' => e = .returned (.bool false) ∧ w' = w := by
  have xa : decide (x < 0) = false := by simp; omega
  have xb : decide (4 ≤ x) = false := by simp; omega
  have ya : decide (y < 0) = false := by simp; omega
  have yb : decide (4 ≤ y) = false := by simp; omega
  have za : decide (z < 0) = false := by simp; omega
  have zb : decide (4 ≤ z) = true := by simp; omega
  go_enter Try.func21, Try.ntmps21
  go_wp2_with fail
  refine wp_loop_rounds 5 ?_
  rw [rounds_succ]
  go_wp2_with fail
  rw [rounds_succ]
  go_wp2_with fail
  rw [rounds_succ]
  go_wp2_with fail
  go_ret
  exact ⟨rfl, rfl⟩
theorem regs1 (x : Int) (b : Nat) (w : World) (c0 : w.cell? ⟨b, 0, none⟩ = some (.int .i64 x)) : Calls Try.prog 21 #[.slice (some ⟨b, 0, none⟩) 1 1] w fun e w' => e = .returned (.bool (decide (0 ≤ x ∧ x < 4))) ∧ w' = w := by
  by_cases h : x < 0
  · rw [decide_eq_false (by omega)]; exact regs1_n x h b w c0
  by_cases h2 : 4 ≤ x
  · rw [decide_eq_false (by omega)]; exact regs1_g x h2 b w c0
  rw [decide_eq_true (by omega)]; exact regs1_y x (by omega) b w c0
theorem regs3 (x y z : Int) (b : Nat) (w : World) (c0 : w.cell? ⟨b, 0, none⟩ = some (.int .i64 x)) (c1 : w.cell? ⟨b, 1, none⟩ = some (.int .i64 y)) (c2 : w.cell? ⟨b, 2, none⟩ = some (.int .i64 z)) : Calls Try.prog 21 #[.slice (some ⟨b, 0, none⟩) 3 3] w fun e w' => e = .returned (.bool (decide ((0 ≤ x ∧ x < 4) ∧ (0 ≤ y ∧ y < 4) ∧ (0 ≤ z ∧ z < 4)))) ∧ w' = w := by
  by_cases h : x < 0
  · rw [decide_eq_false (by omega)]; exact regs3_n x y z h b w c0 c1 c2
  by_cases h2 : 4 ≤ x
  · rw [decide_eq_false (by omega)]; exact regs3_g x y z h2 b w c0 c1 c2
  by_cases h3 : y < 0
  · rw [decide_eq_false (by omega)]; exact regs3_yn x y z (by omega) h3 b w c0 c1 c2
  by_cases h4 : 4 ≤ y
  · rw [decide_eq_false (by omega)]; exact regs3_yg x y z (by omega) h4 b w c0 c1 c2
  by_cases h5 : z < 0
  · rw [decide_eq_false (by omega)]; exact regs3_yyn x y z (by omega) (by omega) h5 b w c0 c1 c2
  by_cases h6 : 4 ≤ z
  · rw [decide_eq_false (by omega)]; exact regs3_yyg x y z (by omega) (by omega) h6 b w c0 c1 c2
  rw [decide_eq_true (by omega)]; exact regs3_yyy x y z (by omega) (by omega) (by omega) b w c0 c1 c2
end Go.Proofs.Ytcieglidghnidaa
