/- The document's functions of layers 3 and 4; where its Walk stops at once; what its loops keep. -/
import Derived.Test.YtaebihgegiddnaaDoorP6
import Derived.Test.YtaebihgegiddnaaDoorP7
import Derived.Laws.ShiftsVar
import Derived.Deep.QuietTactic
import Derived.BigQuiet
import Derived.Test.YtaebihgegiddnaaDoorVA
import Derived.Maps.AppendAt
namespace Go.Proofs.YtaebihgegiddnaaDoor
open Go.ChangeShapes Go.WideShapes Go.ChangeAt Go.RowKit
set_option linter.unusedSimpArgs false
set_option linter.unusedVariables false
set_option maxRecDepth 8000

theorem div_nn (x : Int) (x0 : 0 ≤ x) (k : Nat) : 0 ≤ x / 2 ^ k := Int.ediv_nonneg x0 (Int.le_of_lt (Int.pow_pos (by omega)))
set_option maxHeartbeats 400000 in
theorem bit_any (x i : Int) (x0 : 0 ≤ x) (x1 : x < 18446744073709551616) (i0 : 0 ≤ i) (i1 : i < 64) (w : World) :
    Calls Tryd.prog 34 #[.int .u64 x, .int .i64 i] w fun e w' => e = .returned (.bool (bt (x / 2 ^ i.toNat))) ∧ w' = w := by
  go_enter Tryd.func34, Tryd.ntmps34
  go_wp2
  go_ret
  refine ⟨?_, rfl⟩
  show Ending.returned (Value.bool ((x / 2 ^ i.toNat).tmod 2 == 1)) = _
  rw [Int.tmod_eq_emod_of_nonneg (div_nn x x0 _)]; rfl
theorem bit_c (x : Int) (x0 : 0 ≤ x) (x1 : x < 18446744073709551616) : Hid (∀ (i : Int) (i0 : 0 ≤ i) (i1 : i < 64) (w : World), Calls Tryd.prog 34 #[.int .u64 x, .int .i64 i] w fun e w' => e = .returned (.bool (bt (x / 2 ^ i.toNat))) ∧ w' = w) :=
  fun i i0 i1 w => bit_any x i x0 x1 i0 i1 w

/-- bits from a on, n of them -/
theorem mod_succ (z : Int) (z0 : 0 ≤ z) (n : Nat) : z % 2 ^ (n + 1) = z % 2 ^ n + z / 2 ^ n % 2 * 2 ^ n := by
  obtain ⟨m, rfl⟩ := Int.eq_ofNat_of_zero_le z0
  have h := Nat.mod_pow_succ (x := m) (b := 2) (k := n)
  have e : ∀ k : Nat, ((2 : Int) ^ k) = ((2 ^ k : Nat) : Int) := fun k => by rw [Int.natCast_pow]; rfl
  rw [e, e, ← Int.natCast_emod, ← Int.natCast_emod, ← Int.natCast_ediv]
  have h2 : ((m / 2 ^ n : Nat) : Int) % 2 = ((m / 2 ^ n % 2 : Nat) : Int) := rfl
  rw [h2, ← Int.natCast_mul, ← Int.natCast_add, h, Nat.mul_comm]
theorem mod_double (z : Int) (z0 : 0 ≤ z) (n : Nat) : z % 2 ^ (n + 1) = 2 * (z / 2 % 2 ^ n) + z % 2 := by
  obtain ⟨m, rfl⟩ := Int.eq_ofNat_of_zero_le z0
  have e : ∀ k : Nat, ((2 : Int) ^ k) = ((2 ^ k : Nat) : Int) := fun k => by rw [Int.natCast_pow]; rfl
  have h : m % 2 ^ (n + 1) = 2 * (m / 2 % 2 ^ n) + m % 2 := by
    rw [Nat.pow_succ, Nat.mul_comm (2 ^ n) 2, Nat.mod_mul]; omega
  rw [e, e]
  have h2 : ((m : Int) / 2) = ((m / 2 : Nat) : Int) := rfl
  rw [h2, ← Int.natCast_emod, ← Int.natCast_emod, h]
  have h3 : ((m : Int) % 2) = ((m % 2 : Nat) : Int) := rfl
  rw [h3]; omega
theorem div_succ (x : Int) (k : Nat) : x / 2 ^ (k + 1) = x / 2 ^ k / 2 := by
  rw [Int.pow_succ, Int.ediv_ediv_of_nonneg (Int.le_of_lt (Int.pow_pos (by omega)))]
theorem div_add (x : Int) (a b : Nat) : x / 2 ^ (a + b) = x / 2 ^ a / 2 ^ b := by
  rw [Int.pow_add, Int.ediv_ediv_of_nonneg (Int.le_of_lt (Int.pow_pos (by omega)))]
theorem pow_le2 {m n : Nat} (h : m ≤ n) : (2 : Int) ^ m ≤ 2 ^ n := by
  have := Nat.pow_le_pow_right (n := 2) (by omega) h
  have e : ∀ k : Nat, ((2 : Int) ^ k) = ((2 ^ k : Nat) : Int) := fun k => by rw [Int.natCast_pow]; rfl
  rw [e, e]; omega
theorem bt_cases (z : Int) : (bt z = true ∧ z % 2 = 1) ∨ (bt z = false ∧ z % 2 = 0) := by
  unfold bt
  rcases (show z % 2 = 0 ∨ z % 2 = 1 by omega) with h | h <;> rw [h] <;> simp

set_option maxHeartbeats 1000000 in
theorem part_any (x : Int) (x0 : 0 ≤ x) (x1 : x < 18446744073709551616) (f : Nat) (n : Nat) (hn : f + n ≤ 64) (n12 : n ≤ 12) (w : World) :
    Calls Tryd.prog 28 #[.int .u64 x, .int .i64 f, .int .i64 n] w fun e w' => e = .returned (.int .i64 (x / 2 ^ f % 2 ^ n)) ∧ w' = w := by
  have B := bit_c x x0 x1
  go_enter Tryd.func28, Tryd.ntmps28
  go_wp2_with fail
  go_loop [7, 8] (fun y i => ∃ j : Nat, j ≤ n ∧ i = .int .i64 ((j : Int) - 1) ∧ y = .int .i64 (x / 2 ^ (f + j) % 2 ^ (n - j))) (fun _ i => (intOf i + 1).toNat)
  case atStart => exact ⟨n, Nat.le_refl _, rfl, by rw [Nat.sub_self, Int.pow_zero, Int.emod_one]⟩
  case round =>
    obtain ⟨j, hj, rfl, rfl⟩ := hrel
    obtain ⟨Y, hY⟩ : ∃ Y, x / 2 ^ (f + j) % 2 ^ (n - j) = Y := ⟨_, rfl⟩
    have hp : (0 : Int) < 2 ^ (n - j) := Int.pow_pos (by omega)
    have hp2 : (2 : Int) ^ (n - j) ≤ 2 ^ 12 := pow_le2 (by omega)
    have Y0 : 0 ≤ Y := by rw [← hY]; exact Int.emod_nonneg _ (by omega)
    have Y1 : Y < 4096 := by
      have := Int.emod_lt_of_pos (x / 2 ^ (f + j)) hp
      rw [hY] at this
      have e : (2 : Int) ^ 12 = 4096 := by decide
      omega
    rw [hY]
    by_cases h0 : j = 0
    · subst h0
      have HY : Hid (x / 2 ^ f % 2 ^ n = Y) := hY
      clear hY hp hp2
      go_wp2_with fail
      go_ret
      exact ⟨by rw [HY.out]; rfl, rfl⟩
    · obtain ⟨m, rfl⟩ : ∃ m, j = m + 1 := ⟨j - 1, by omega⟩
      have hz := div_nn x x0 (f + m)
      have e1 : x / 2 ^ (f + m) % 2 ^ (n - m) = 2 * Y + x / 2 ^ (f + m) % 2 := by
        rw [show n - m = (n - (m + 1)) + 1 by omega, mod_double _ hz, ← div_succ, ← hY]; rfl
      have ej : (((m + 1 : Nat) : Int) - 1) = (m : Int) := by omega
      have et : ((f : Int) + (m : Int)).toNat = f + m := by omega
      rw [ej]
      have Bm := B.out ((f : Int) + (m : Int)) (by omega) (by omega)
      rw [et] at Bm
      have hm : m < n := by omega
      have hb := bt_cases (x / 2 ^ (f + m))
      clear hY hp hp2 B h0 ej et hz hj
      rcases hb with ⟨hb1, hb2⟩ | ⟨hb1, hb2⟩
      · have E1 : Hid (x / 2 ^ (f + m) % 2 ^ (n - m) = 2 * Y + 1) := by rw [hb2] at e1; exact e1
        rw [hb1] at Bm
        have Bh : Hid (∀ w : World, Calls Tryd.prog 34 #[.int .u64 x, .int .i64 ((f : Int) + (m : Int))] w fun e w' => e = .returned (.bool true) ∧ w' = w) := Bm
        clear e1 hb1 hb2 Bm
        go_wp2_with fail
        refine (Bh.out _).mono ?_
        rintro e w1 ⟨rfl, rfl⟩
        go_wp2_with fail
        go_round
        case rel => exact ⟨m, by omega, rfl, by rw [E1.out]⟩
        case measure => simp [intOf]
      · have E1 : Hid (x / 2 ^ (f + m) % 2 ^ (n - m) = 2 * Y) := by rw [hb2, Int.add_zero] at e1; exact e1
        rw [hb1] at Bm
        have Bh : Hid (∀ w : World, Calls Tryd.prog 34 #[.int .u64 x, .int .i64 ((f : Int) + (m : Int))] w fun e w' => e = .returned (.bool false) ∧ w' = w) := Bm
        clear e1 hb1 hb2 Bm
        go_wp2_with fail
        refine (Bh.out _).mono ?_
        rintro e w1 ⟨rfl, rfl⟩
        go_wp2_with fail
        go_round
        case rel => exact ⟨m, by omega, rfl, by rw [E1.out]⟩
        case measure => simp [intOf]
end Go.Proofs.YtaebihgegiddnaaDoor
namespace Go.Proofs.YtaebihgegiddnaaDoor
open Go.ChangeShapes Go.WideShapes Go.ChangeAt Go.RowKit
set_option linter.unusedSimpArgs false
set_option linter.unusedVariables false
set_option maxRecDepth 8000

theorem mod_pow_le (z : Int) (z0 : 0 ≤ z) (m : Nat) : ∀ n, z % 2 ^ m ≠ 0 → z % 2 ^ (m + n) ≠ 0
  | 0, h => h
  | n + 1, h => by
    have ih := mod_pow_le z z0 m n h
    have e := mod_succ z z0 (m + n)
    have hp : (0 : Int) < 2 ^ (m + n) := Int.pow_pos (by omega)
    have h1 := Int.emod_nonneg z (show (2 : Int) ^ (m + n) ≠ 0 by omega)
    have h2 : 0 ≤ z / 2 ^ (m + n) % 2 * 2 ^ (m + n) := Int.mul_nonneg (by omega) (by omega)
    rw [show m + (n + 1) = m + n + 1 by omega, e]
    omega
set_option maxHeartbeats 1000000 in
theorem any_any (x : Int) (x0 : 0 ≤ x) (x1 : x < 18446744073709551616) (a n : Nat) (hn : a + n ≤ 63) (w : World) :
    Calls Tryd.prog 44 #[.int .u64 x, .int .i64 a, .int .i64 ((a : Int) + n)] w fun e w' => e = .returned (.bool (x / 2 ^ a % 2 ^ (n + 1) != 0)) ∧ w' = w := by
  have B := bit_c x x0 x1
  obtain ⟨R, hR⟩ : ∃ R, (x / 2 ^ a % 2 ^ (n + 1) != 0) = R := ⟨_, rfl⟩
  have HR : Hid ((x / 2 ^ a % 2 ^ (n + 1) != 0) = R) := hR
  rw [hR]
  clear hR
  go_enter Tryd.func44, Tryd.ntmps44
  go_wp2_with fail
  go_loop [7] (fun i => ∃ j : Nat, j ≤ n + 1 ∧ i = .int .i64 ((a : Int) + j) ∧ x / 2 ^ a % 2 ^ j = 0) (fun i => (a + n + 1 - intOf i).toNat)
  case atStart => exact ⟨0, by omega, by simp, by rw [Int.pow_zero, Int.emod_one]⟩
  case round =>
    obtain ⟨j, hj, rfl, hz⟩ := hrel
    have HZ : Hid (x / 2 ^ a % 2 ^ j = 0) := hz
    clear hz
    by_cases h0 : j = n + 1
    · subst h0
      have ej : ((a : Int) + ((n + 1 : Nat) : Int)) = (a : Int) + n + 1 := by omega
      rw [ej]
      clear ej
      go_wp2_with fail
      go_ret
      exact ⟨by rw [← HR.out, HZ.out]; rfl, rfl⟩
    · have Bm := B.out ((a : Int) + (j : Int)) (by omega) (by omega)
      rw [show ((a : Int) + (j : Int)).toNat = a + j by omega] at Bm
      have hm : j < n + 1 := by omega
      have hb := bt_cases (x / 2 ^ (a + j))
      have e1 := mod_succ (x / 2 ^ a) (div_nn x x0 a) j
      rw [← div_add, HZ.out, Int.zero_add] at e1
      clear h0 hj B HZ
      rcases hb with ⟨hb1, hb2⟩ | ⟨hb1, hb2⟩
      · rw [hb2, Int.one_mul] at e1
        have E1 : Hid (x / 2 ^ a % 2 ^ (j + 1) ≠ 0) := by
          have hp : (0 : Int) < 2 ^ j := Int.pow_pos (by omega)
          show x / 2 ^ a % 2 ^ (j + 1) ≠ 0
          omega
        rw [hb1] at Bm
        have Bh : Hid (∀ w : World, Calls Tryd.prog 34 #[.int .u64 x, .int .i64 ((a : Int) + (j : Int))] w fun e w' => e = .returned (.bool true) ∧ w' = w) := Bm
        clear e1 hb1 hb2 Bm
        go_wp2_with fail
        refine (Bh.out _).mono ?_
        rintro e w1 ⟨rfl, rfl⟩
        go_wp2_with fail
        go_ret
        refine ⟨?_, rfl⟩
        have := mod_pow_le (x / 2 ^ a) (div_nn x x0 a) (j + 1) (n - j) E1.out
        rw [show j + 1 + (n - j) = n + 1 by omega] at this
        rw [← HR.out, bne_iff_ne.2 this]; rfl
      · rw [hb2, Int.zero_mul] at e1
        have E1 : Hid (x / 2 ^ a % 2 ^ (j + 1) = 0) := e1
        rw [hb1] at Bm
        have Bh : Hid (∀ w : World, Calls Tryd.prog 34 #[.int .u64 x, .int .i64 ((a : Int) + (j : Int))] w fun e w' => e = .returned (.bool false) ∧ w' = w) := Bm
        clear e1 hb1 hb2 Bm
        go_wp2_with fail
        refine (Bh.out _).mono ?_
        rintro e w1 ⟨rfl, rfl⟩
        go_wp2_with fail
        go_round
        case rel => exact ⟨j + 1, by omega, by simp; omega, E1.out⟩
        case measure => simp [intOf]; omega
theorem canon_iff (x : Int) (x0 : 0 ≤ x) (x1 : x < 18446744073709551616) : (ext x = x) ↔ (x / 140737488355328 % 131072 = 0 ∨ x / 140737488355328 % 131072 = 131071) := by
  unfold ext; split <;> omega
theorem canon_bits (x : Int) (j : Nat) (hj : j ≤ 16) (h : x / 140737488355328 % 131072 = 0 ∨ x / 140737488355328 % 131072 = 131071) : bt (x / 2 ^ (47 + j)) = bt (x / 2 ^ 47) := by
  rw [div_add]
  simp only [Int.reducePow]
  apply bt_of
  generalize x / 140737488355328 = z at *
  rcases (show j = 0 ∨ j = 1 ∨ j = 2 ∨ j = 3 ∨ j = 4 ∨ j = 5 ∨ j = 6 ∨ j = 7 ∨ j = 8 ∨ j = 9 ∨ j = 10 ∨ j = 11 ∨ j = 12 ∨ j = 13 ∨ j = 14 ∨ j = 15 ∨ j = 16 by omega) with rfl | rfl | rfl | rfl | rfl | rfl | rfl | rfl | rfl | rfl | rfl | rfl | rfl | rfl | rfl | rfl | rfl <;> simp only [Int.reducePow, Int.ediv_one] <;> omega
set_option maxHeartbeats 1000000 in
theorem rcanonical_any (x : Int) (x0 : 0 ≤ x) (x1 : x < 18446744073709551616) (w : World) :
    Calls Tryd.prog 26 #[.int .u64 x] w fun e w' => e = .returned (.bool (ext x == x)) ∧ w' = w := by
  have B := bit_c x x0 x1
  obtain ⟨R, hR⟩ : ∃ R, (ext x == x) = R := ⟨_, rfl⟩
  have HR : Hid ((ext x == x) = R) := hR
  obtain ⟨b, hb⟩ : ∃ b, bt (x / 2 ^ 47) = b := ⟨_, rfl⟩
  have HB : Hid (bt (x / 2 ^ 47) = b) := hb
  have B47 := B.out 47 (by omega) (by omega)
  rw [show (47 : Int).toNat = 47 from rfl, hb] at B47
  have H47 : Hid (∀ w : World, Calls Tryd.prog 34 #[.int .u64 x, .int .i64 47] w fun e w' => e = .returned (.bool b) ∧ w' = w) := B47
  rw [hR]
  clear hR hb B47
  go_enter Tryd.func26, Tryd.ntmps26
  go_wp2_with fail
  go_loop [3] (fun i => ∃ j : Nat, j ≤ 17 ∧ i = .int .i64 (47 + (j : Int)) ∧ x / 2 ^ 47 % 2 ^ j = fl b (2 ^ j - 1)) (fun i => (64 - intOf i).toNat)
  case atStart => exact ⟨0, by omega, rfl, by rw [Int.pow_zero, Int.emod_one]; cases b <;> rfl⟩
  case round =>
    obtain ⟨j, hj, rfl, hz⟩ := hrel
    have HZ : Hid (x / 2 ^ 47 % 2 ^ j = fl b (2 ^ j - 1)) := hz
    clear hz
    by_cases h0 : j = 17
    · subst h0
      have ej : (47 + ((17 : Nat) : Int)) = 64 := rfl
      rw [ej]
      clear ej
      go_wp2_with fail
      go_ret
      refine ⟨?_, rfl⟩
      have h := HZ.out
      simp only [Int.reducePow] at h
      have : ext x = x := (canon_iff x x0 x1).2 (by cases b; · exact Or.inl h
                                                    · exact Or.inr h)
      rw [← HR.out, beq_iff_eq.2 this]; rfl
    · have Bm := B.out (47 + (j : Int)) (by omega) (by omega)
      rw [show (47 + (j : Int)).toNat = 47 + j by omega] at Bm
      have hm : j < 17 := by omega
      have hm' : 47 + (j : Int) < 64 := by omega
      have e1 := mod_succ (x / 2 ^ 47) (div_nn x x0 47) j
      rw [← div_add, HZ.out] at e1
      obtain ⟨c, hc⟩ : ∃ c, bt (x / 2 ^ (47 + j)) = c := ⟨_, rfl⟩
      rw [hc] at Bm
      have Bh : Hid (∀ w : World, Calls Tryd.prog 34 #[.int .u64 x, .int .i64 (47 + (j : Int))] w fun e w' => e = .returned (.bool c) ∧ w' = w) := Bm
      by_cases hcb : c = b
      · subst hcb
        have hcc := bt_cases (x / 2 ^ (47 + j))
        rw [hc] at hcc
        have E1 : Hid (x / 2 ^ 47 % 2 ^ (j + 1) = fl c (2 ^ (j + 1) - 1)) := by
          rcases hcc with ⟨q1, q2⟩ | ⟨q1, q2⟩
          · rw [q2] at e1
            subst q1
            rw [fl_true] at e1
            show x / 2 ^ 47 % 2 ^ (j + 1) = fl true (2 ^ (j + 1) - 1)
            rw [fl_true, e1, Int.pow_succ]; omega
          · rw [q2] at e1
            subst q1
            rw [fl_false] at e1
            show x / 2 ^ 47 % 2 ^ (j + 1) = fl false (2 ^ (j + 1) - 1)
            rw [fl_false, e1]; omega
        clear h0 hj B HZ e1 hc Bm hcc
        cases c
        · go_wp2_with fail
          refine (Bh.out _).mono ?_
          rintro e w1 ⟨rfl, rfl⟩
          go_wp2_with fail
          refine (H47.out _).mono ?_
          rintro e w1 ⟨rfl, rfl⟩
          go_wp2_with fail
          go_round
          case rel => exact ⟨j + 1, by omega, by simp; omega, E1.out⟩
          case measure => simp [intOf]; omega
        · go_wp2_with fail
          refine (Bh.out _).mono ?_
          rintro e w1 ⟨rfl, rfl⟩
          go_wp2_with fail
          refine (H47.out _).mono ?_
          rintro e w1 ⟨rfl, rfl⟩
          go_wp2_with fail
          go_round
          case rel => exact ⟨j + 1, by omega, by simp; omega, E1.out⟩
          case measure => simp [intOf]; omega
      · have hR' : Hid (R = false) := by
          show R = false
          rw [← HR.out]
          apply beq_eq_false_iff_ne.2
          intro hx
          have h2 := canon_bits x j (by omega) ((canon_iff x x0 x1).1 hx)
          rw [hc] at h2
          have h3 := HB.out
          rw [h2] at hcb
          exact hcb h3
        have hne : (c != b) = true := by cases c <;> cases b <;> simp_all
        clear h0 hj B HZ e1 hc Bm hcb HB HR
        cases c
        · cases b
          · simp at hne
          · clear hne
            go_wp2_with fail
            refine (Bh.out _).mono ?_
            rintro e w1 ⟨rfl, rfl⟩
            go_wp2_with fail
            refine (H47.out _).mono ?_
            rintro e w1 ⟨rfl, rfl⟩
            go_wp2_with fail
            go_ret
            exact ⟨by rw [hR'.out]; rfl, rfl⟩
        · cases b
          · clear hne
            go_wp2_with fail
            refine (Bh.out _).mono ?_
            rintro e w1 ⟨rfl, rfl⟩
            go_wp2_with fail
            refine (H47.out _).mono ?_
            rintro e w1 ⟨rfl, rfl⟩
            go_wp2_with fail
            go_ret
            exact ⟨by rw [hR'.out]; rfl, rfl⟩
          · simp at hne
end Go.Proofs.YtaebihgegiddnaaDoor
namespace Go.Proofs.YtaebihgegiddnaaDoor
open Go.ChangeShapes Go.WideShapes Go.ChangeAt Go.RowKit
set_option linter.unusedSimpArgs false
set_option linter.unusedVariables false
set_option maxRecDepth 8000

set_option maxHeartbeats 400000 in
theorem rreserved_any (x level : Int) (x0 : 0 ≤ x) (x1 : x < 18446744073709551616) (w : World) :
    Calls Tryd.prog 32 #[.int .u64 x, .int .i64 level] w fun e w' => e = .returned (.bool (resV x level)) ∧ w' = w := by
  have B := bit_c x x0 x1
  have B0 := B.out 0 (by omega) (by omega)
  have B7 := B.out 7 (by omega) (by omega)
  rw [show (0 : Int).toNat = 0 from rfl, Int.pow_zero, Int.ediv_one] at B0
  rw [show (7 : Int).toNat = 7 from rfl, show (2 : Int) ^ 7 = 128 from by decide] at B7
  have N1 := any_any x x0 x1 32 19 (by omega)
  have N2 := any_any x x0 x1 12 8 (by omega)
  simp only [Nat.reduceAdd, Int.reducePow] at N1 N2
  unfold resV
  generalize (x / 4294967296 % 1048576 != 0) = A at *
  generalize (x / 4096 % 512 != 0) = C at *
  generalize bt (x / 128) = L at *
  generalize bt x = P at *
  have H0 : Hid (∀ w : World, Calls Tryd.prog 34 #[.int .u64 x, .int .i64 0] w fun e w' => e = .returned (.bool P) ∧ w' = w) := B0
  have H7 : Hid (∀ w : World, Calls Tryd.prog 34 #[.int .u64 x, .int .i64 7] w fun e w' => e = .returned (.bool L) ∧ w' = w) := B7
  have H1 : Hid (∀ w : World, Calls Tryd.prog 44 #[.int .u64 x, .int .i64 32, .int .i64 51] w fun e w' => e = .returned (.bool A) ∧ w' = w) := N1
  have H2 : Hid (∀ w : World, Calls Tryd.prog 44 #[.int .u64 x, .int .i64 12, .int .i64 20] w fun e w' => e = .returned (.bool C) ∧ w' = w) := N2
  clear B B0 B7 N1 N2
  obtain ⟨R, hR⟩ : ∃ R, (P && (A || if 3 ≤ level then L else level == 2 && L && C)) = R := ⟨_, rfl⟩
  rw [hR]
  cases P
  · have HR : Hid (false = R) := hR
    clear hR
    go_enter Tryd.func32, Tryd.ntmps32
    go_wp2_with fail
    refine (H0.out _).mono ?_
    rintro e w1 ⟨rfl, rfl⟩
    go_wp2_with fail
    go_ret
    exact ⟨by rw [← HR.out]; rfl, rfl⟩
  · cases A
    · by_cases h3 : 3 ≤ level
      · rw [if_pos h3] at hR
        have HR : Hid (L = R) := by rw [← hR]; rfl
        clear hR
        go_enter Tryd.func32, Tryd.ntmps32
        go_wp2_with fail
        refine (H0.out _).mono ?_
        rintro e w1 ⟨rfl, rfl⟩
        go_wp2_with fail
        refine (H1.out _).mono ?_
        rintro e w1 ⟨rfl, rfl⟩
        go_wp2_with fail
        refine (H7.out _).mono ?_
        rintro e w1 ⟨rfl, rfl⟩
        go_wp2_with fail
        go_ret
        exact ⟨by rw [← HR.out]; rfl, rfl⟩
      · rw [if_neg h3] at hR
        have h3' : level < 3 := by omega
        clear h3
        by_cases h2 : level = 2
        · subst h2
          cases L
          · have HR : Hid (false = R) := hR
            clear hR
            go_enter Tryd.func32, Tryd.ntmps32
            go_wp2_with fail
            refine (H0.out _).mono ?_
            rintro e w1 ⟨rfl, rfl⟩
            go_wp2_with fail
            refine (H1.out _).mono ?_
            rintro e w1 ⟨rfl, rfl⟩
            go_wp2_with fail
            refine (H7.out _).mono ?_
            rintro e w1 ⟨rfl, rfl⟩
            go_wp2_with fail
            go_ret
            exact ⟨by rw [← HR.out]; rfl, rfl⟩
          · have HR : Hid (C = R) := hR
            clear hR
            go_enter Tryd.func32, Tryd.ntmps32
            go_wp2_with fail
            refine (H0.out _).mono ?_
            rintro e w1 ⟨rfl, rfl⟩
            go_wp2_with fail
            refine (H1.out _).mono ?_
            rintro e w1 ⟨rfl, rfl⟩
            go_wp2_with fail
            refine (H7.out _).mono ?_
            rintro e w1 ⟨rfl, rfl⟩
            go_wp2_with fail
            refine (H2.out _).mono ?_
            rintro e w1 ⟨rfl, rfl⟩
            go_wp2_with fail
            go_ret
            exact ⟨by rw [← HR.out]; rfl, rfl⟩
        · have h2' : (level == 2) = false := by simp [h2]
          have HR : Hid (false = R) := by rw [← hR, h2']; rfl
          clear h2 hR
          go_enter Tryd.func32, Tryd.ntmps32
          go_wp2_with fail
          refine (H0.out _).mono ?_
          rintro e w1 ⟨rfl, rfl⟩
          go_wp2_with fail
          refine (H1.out _).mono ?_
          rintro e w1 ⟨rfl, rfl⟩
          go_wp2_with fail
          go_ret
          exact ⟨by rw [← HR.out]; rfl, rfl⟩
    · have HR : Hid (true = R) := by rw [← hR]; rfl
      clear hR
      go_enter Tryd.func32, Tryd.ntmps32
      go_wp2_with fail
      refine (H0.out _).mono ?_
      rintro e w1 ⟨rfl, rfl⟩
      go_wp2_with fail
      refine (H1.out _).mono ?_
      rintro e w1 ⟨rfl, rfl⟩
      go_wp2_with fail
      go_ret
      exact ⟨by rw [← HR.out]; rfl, rfl⟩
set_option maxHeartbeats 400000 in
theorem runpack_any (x : Int) (x0 : 0 ≤ x) (x1 : x < 18446744073709551616) (w : World) :
    Calls Tryd.prog 30 #[.int .u64 x] w fun e w' => e = .returned (unp x) ∧ Below w.heap.size w w' := by
  have B := bit_c x x0 x1
  have B0 : Hid (∀ w : World, Calls Tryd.prog 34 #[.int .u64 x, .int .i64 0] w fun e w' => e = .returned (.bool (bt (x))) ∧ w' = w) := fun w => by
    have := B.out 0 (by omega) (by omega) w
    rw [show (0 : Int).toNat = 0 from rfl, Int.pow_zero, Int.ediv_one] at this; exact this
  have B1 : Hid (∀ w : World, Calls Tryd.prog 34 #[.int .u64 x, .int .i64 1] w fun e w' => e = .returned (.bool (bt (x / 2))) ∧ w' = w) := fun w => by
    have := B.out 1 (by omega) (by omega) w
    rw [show (1 : Int).toNat = 1 from rfl, show (2 : Int) ^ 1 = 2 from by decide] at this; exact this
  have B2 : Hid (∀ w : World, Calls Tryd.prog 34 #[.int .u64 x, .int .i64 2] w fun e w' => e = .returned (.bool (bt (x / 4))) ∧ w' = w) := fun w => by
    have := B.out 2 (by omega) (by omega) w
    rw [show (2 : Int).toNat = 2 from rfl, show (2 : Int) ^ 2 = 4 from by decide] at this; exact this
  have B5 : Hid (∀ w : World, Calls Tryd.prog 34 #[.int .u64 x, .int .i64 5] w fun e w' => e = .returned (.bool (bt (x / 32))) ∧ w' = w) := fun w => by
    have := B.out 5 (by omega) (by omega) w
    rw [show (5 : Int).toNat = 5 from rfl, show (2 : Int) ^ 5 = 32 from by decide] at this; exact this
  have B6 : Hid (∀ w : World, Calls Tryd.prog 34 #[.int .u64 x, .int .i64 6] w fun e w' => e = .returned (.bool (bt (x / 64))) ∧ w' = w) := fun w => by
    have := B.out 6 (by omega) (by omega) w
    rw [show (6 : Int).toNat = 6 from rfl, show (2 : Int) ^ 6 = 64 from by decide] at this; exact this
  have B7 : Hid (∀ w : World, Calls Tryd.prog 34 #[.int .u64 x, .int .i64 7] w fun e w' => e = .returned (.bool (bt (x / 128))) ∧ w' = w) := fun w => by
    have := B.out 7 (by omega) (by omega) w
    rw [show (7 : Int).toNat = 7 from rfl, show (2 : Int) ^ 7 = 128 from by decide] at this; exact this
  have B8 : Hid (∀ w : World, Calls Tryd.prog 34 #[.int .u64 x, .int .i64 8] w fun e w' => e = .returned (.bool (bt (x / 256))) ∧ w' = w) := fun w => by
    have := B.out 8 (by omega) (by omega) w
    rw [show (8 : Int).toNat = 8 from rfl, show (2 : Int) ^ 8 = 256 from by decide] at this; exact this
  have B63 : Hid (∀ w : World, Calls Tryd.prog 34 #[.int .u64 x, .int .i64 63] w fun e w' => e = .returned (.bool (bt (x / 9223372036854775808))) ∧ w' = w) := fun w => by
    have := B.out 63 (by omega) (by omega) w
    rw [show (63 : Int).toNat = 63 from rfl, show (2 : Int) ^ 63 = 9223372036854775808 from by decide] at this; exact this
  clear B
  go_enter Tryd.func30, Tryd.ntmps30
  go_wp2_with fail
  refine (B0.out _).mono ?_
  rintro e w1 ⟨rfl, rfl⟩
  go_wp2_with fail
  refine (B1.out _).mono ?_
  rintro e w1 ⟨rfl, rfl⟩
  go_wp2_with fail
  refine (B2.out _).mono ?_
  rintro e w1 ⟨rfl, rfl⟩
  go_wp2_with fail
  refine (B5.out _).mono ?_
  rintro e w1 ⟨rfl, rfl⟩
  go_wp2_with fail
  refine (B6.out _).mono ?_
  rintro e w1 ⟨rfl, rfl⟩
  go_wp2_with fail
  refine (B7.out _).mono ?_
  rintro e w1 ⟨rfl, rfl⟩
  go_wp2_with fail
  refine (B8.out _).mono ?_
  rintro e w1 ⟨rfl, rfl⟩
  go_wp2_with fail
  refine (B63.out _).mono ?_
  rintro e w1 ⟨rfl, rfl⟩
  go_wp2_with fail
  go_returns
  exact ⟨rfl, Go.Joins.below_alloc1 _ _⟩
end Go.Proofs.YtaebihgegiddnaaDoor
namespace Go.Proofs.YtaebihgegiddnaaDoor
open Go.ChangeShapes Go.WideShapes Go.ChangeAt Go.RowKit Go.Maps
set_option linter.unusedSimpArgs false
set_option linter.unusedVariables false
set_option maxRecDepth 8000
theorem in_take (hs : List (Int × Int)) (k : Int) (j : Nat) (f t : Int) (h : hs[j]? = some (f, t)) : inH (hs.take (j + 1)) k = (inH (hs.take j) k || (decide (f ≤ k) && decide (k < t))) := by
  unfold inH
  rw [List.take_add_one, h, List.any_append]; simp
set_option maxHeartbeats 4000000 in
theorem rhas_map (F k : Int) (hb cap mbx : Nat) (hs : List (Int × Int)) (w : World) (hh : HolesAt w hb hs) (hhb : hb < w.heap.size) (l9 : hs.length ≤ 70) :
    Calls Tryd.prog 27 #[.agg #[.int .i64 F, .slice (some ⟨hb, 0, none⟩) hs.length cap, .map (some mbx)], .int .i64 k] w fun e w' => e = .returned (.bool (hasH F hs k)) ∧ Below w.heap.size w w' := by
  have HH : Hid (HolesAt w hb hs) := hh
  clear hh
  obtain ⟨z, hz⟩ : ∃ z, hasH F hs k = z := ⟨_, rfl⟩
  rw [hz]
  have HZ : Hid (hasH F hs k = z) := hz
  clear hz
  obtain ⟨b0, hb0⟩ : ∃ b0, hasF F k = b0 := ⟨_, rfl⟩
  have HF : Hid (hasF F k = b0) := hb0
  have start : (0 ≤ k ∧ k < F ∧ b0 = true) ∨ (0 ≤ k ∧ ¬ k < F ∧ b0 = false) ∨ (¬ 0 ≤ k ∧ b0 = false) := by
    rw [← hb0]; unfold hasF
    by_cases a : 0 ≤ k
    · by_cases b : k < F
      · exact Or.inl ⟨a, b, by simp [a, b]⟩
      · exact Or.inr (Or.inl ⟨a, b, by simp [b]⟩)
    · exact Or.inr (Or.inr ⟨a, by simp [a]⟩)
  clear hb0
  have loop : Hid (∀ (x : Bool) (j : Nat) (f t : Int), hs[j]? = some (f, t) → (b0 && !inH (hs.take j) k) = x → (b0 && !inH (hs.take (j + 1)) k) = (x && !(decide (f ≤ k) && decide (k < t)))) := fun x j f t h e => by
    rw [in_take hs k j f t h, ← e]
    cases b0 <;> cases inH (hs.take j) k <;> simp
  rcases start with ⟨a, b, rfl⟩ | ⟨a, b, rfl⟩ | ⟨a, rfl⟩
  · have d0 : decide (0 ≤ k) = true := by simp [a]
    have d1 : decide (k < F) = true := by simp [b]
    go_enter Tryd.func27, Tryd.ntmps27
    go_wp2_with fail
    go_loopw [5, 19] (fun y i wr => ∃ (j : Nat) (x : Bool), j ≤ hs.length ∧ y = .bool x ∧ i = .int .i64 j ∧ Hid (w.grownBy wr none) ∧ Hid ((true && !inH (hs.take j) k) = x)) (fun _ i _ => hs.length - (intOf i).toNat)
    case atStart => exact ⟨0, true, by omega, rfl, rfl, World.grownBy_alloc _ _ none, (by show (true && !inH (hs.take 0) k) = true; simp [inH])⟩
    case round =>
      obtain ⟨j, x, hj, rfl, rfl, hg, hx⟩ := hrel
      have hb2 := hg.out.block hb hhb (by simp)
      by_cases cj : j < hs.length
      · have hdj : decide ((j : Int) < (hs.length : Int)) = true := by simp; omega
        obtain ⟨f, t, hft⟩ : ∃ f t : Int, hs[j]? = some (f, t) := ⟨(hs[j]).1, (hs[j]).2, by rw [List.getElem?_eq_getElem cj]⟩
        have q1 : wr.cell? ⟨hb, j * 2, none⟩ = some (.int .i64 f) := by rw [World.cell?_of_block (w := w) (a := ⟨hb, j * 2, none⟩) hb2]; exact (HH.out j _ hft).1
        have q2 : wr.cell? ⟨hb, j * 2 + 1, none⟩ = some (.int .i64 t) := by rw [World.cell?_of_block (w := w) (a := ⟨hb, j * 2 + 1, none⟩) hb2]; exact (HH.out j _ hft).2
        have NX := loop.out x j f t hft hx.out
        have NX' : Hid _ := NX
        clear NX hft hb2
        cases x
        · have N2 : Hid ((true && !inH (hs.take (j + 1)) k) = false) := by have := NX'.out; rw [this]; rfl
          clear NX'
          go_wp2_with fail
          go_roundw
          case rel => exact ⟨j + 1, false, by omega, rfl, by go_num, grown_trans hg.out (World.grownBy_alloc _ _ none), N2⟩
          case measure => simp [intOf]; omega
        · by_cases c1 : f ≤ k
          · have e1 : decide (f ≤ k) = true := by simp [c1]
            by_cases c2 : k < t
            · have e2 : decide (k < t) = true := by simp [c2]
              have N2 : Hid ((true && !inH (hs.take (j + 1)) k) = false) := by have := NX'.out; rw [this, e1, e2]; rfl
              clear NX'
              go_wp2_with fail
              go_roundw
              case rel => exact ⟨j + 1, false, by omega, rfl, by go_num, grown_trans hg.out (World.grownBy_alloc _ _ none), N2⟩
              case measure => simp [intOf]; omega
            · have e2 : decide (k < t) = false := by simp; omega
              have N2 : Hid ((true && !inH (hs.take (j + 1)) k) = true) := by have := NX'.out; rw [this, e1, e2]; rfl
              clear NX'
              go_wp2_with fail
              go_roundw
              case rel => exact ⟨j + 1, true, by omega, rfl, by go_num, grown_trans hg.out (World.grownBy_alloc _ _ none), N2⟩
              case measure => simp [intOf]; omega
          · have e1 : decide (f ≤ k) = false := by simp; omega
            have N2 : Hid ((true && !inH (hs.take (j + 1)) k) = true) := by have := NX'.out; rw [this, e1]; rfl
            clear NX'
            go_wp2_with fail
            go_roundw
            case rel => exact ⟨j + 1, true, by omega, rfl, by go_num, grown_trans hg.out (World.grownBy_alloc _ _ none), N2⟩
            case measure => simp [intOf]; omega
      · obtain rfl : j = hs.length := by omega
        have e9 : x = z := by
          have h1 := hx.out
          rw [List.take_length] at h1
          rw [← h1, ← HZ.out]; unfold hasH; rw [HF.out]
        subst e9
        clear loop
        go_wp2_with fail
        go_ret
        exact ⟨rfl, none_below hg.out⟩
  · have d0 : decide (0 ≤ k) = true := by simp [a]
    have d1 : decide (k < F) = false := by simp; omega
    go_enter Tryd.func27, Tryd.ntmps27
    go_wp2_with fail
    go_loopw [5, 19] (fun y i wr => ∃ (j : Nat) (x : Bool), j ≤ hs.length ∧ y = .bool x ∧ i = .int .i64 j ∧ Hid (w.grownBy wr none) ∧ Hid ((false && !inH (hs.take j) k) = x)) (fun _ i _ => hs.length - (intOf i).toNat)
    case atStart => exact ⟨0, false, by omega, rfl, rfl, World.grownBy_alloc _ _ none, (by show (false && !inH (hs.take 0) k) = false; simp [inH])⟩
    case round =>
      obtain ⟨j, x, hj, rfl, rfl, hg, hx⟩ := hrel
      have hb2 := hg.out.block hb hhb (by simp)
      by_cases cj : j < hs.length
      · have hdj : decide ((j : Int) < (hs.length : Int)) = true := by simp; omega
        obtain ⟨f, t, hft⟩ : ∃ f t : Int, hs[j]? = some (f, t) := ⟨(hs[j]).1, (hs[j]).2, by rw [List.getElem?_eq_getElem cj]⟩
        have q1 : wr.cell? ⟨hb, j * 2, none⟩ = some (.int .i64 f) := by rw [World.cell?_of_block (w := w) (a := ⟨hb, j * 2, none⟩) hb2]; exact (HH.out j _ hft).1
        have q2 : wr.cell? ⟨hb, j * 2 + 1, none⟩ = some (.int .i64 t) := by rw [World.cell?_of_block (w := w) (a := ⟨hb, j * 2 + 1, none⟩) hb2]; exact (HH.out j _ hft).2
        have NX := loop.out x j f t hft hx.out
        have NX' : Hid _ := NX
        clear NX hft hb2
        cases x
        · have N2 : Hid ((false && !inH (hs.take (j + 1)) k) = false) := by have := NX'.out; rw [this]; rfl
          clear NX'
          go_wp2_with fail
          go_roundw
          case rel => exact ⟨j + 1, false, by omega, rfl, by go_num, grown_trans hg.out (World.grownBy_alloc _ _ none), N2⟩
          case measure => simp [intOf]; omega
        · by_cases c1 : f ≤ k
          · have e1 : decide (f ≤ k) = true := by simp [c1]
            by_cases c2 : k < t
            · have e2 : decide (k < t) = true := by simp [c2]
              have N2 : Hid ((false && !inH (hs.take (j + 1)) k) = false) := by have := NX'.out; rw [this, e1, e2]; rfl
              clear NX'
              go_wp2_with fail
              go_roundw
              case rel => exact ⟨j + 1, false, by omega, rfl, by go_num, grown_trans hg.out (World.grownBy_alloc _ _ none), N2⟩
              case measure => simp [intOf]; omega
            · have e2 : decide (k < t) = false := by simp; omega
              have N2 : Hid ((false && !inH (hs.take (j + 1)) k) = true) := by have := NX'.out; rw [this, e1, e2]; rfl
              clear NX'
              go_wp2_with fail
              go_roundw
              case rel => exact ⟨j + 1, true, by omega, rfl, by go_num, grown_trans hg.out (World.grownBy_alloc _ _ none), N2⟩
              case measure => simp [intOf]; omega
          · have e1 : decide (f ≤ k) = false := by simp; omega
            have N2 : Hid ((false && !inH (hs.take (j + 1)) k) = true) := by have := NX'.out; rw [this, e1]; rfl
            clear NX'
            go_wp2_with fail
            go_roundw
            case rel => exact ⟨j + 1, true, by omega, rfl, by go_num, grown_trans hg.out (World.grownBy_alloc _ _ none), N2⟩
            case measure => simp [intOf]; omega
      · obtain rfl : j = hs.length := by omega
        have e9 : x = z := by
          have h1 := hx.out
          rw [List.take_length] at h1
          rw [← h1, ← HZ.out]; unfold hasH; rw [HF.out]
        subst e9
        clear loop
        go_wp2_with fail
        go_ret
        exact ⟨rfl, none_below hg.out⟩
  · have d0 : decide (0 ≤ k) = false := by simp; omega
    go_enter Tryd.func27, Tryd.ntmps27
    go_wp2_with fail
    go_loopw [5, 19] (fun y i wr => ∃ (j : Nat) (x : Bool), j ≤ hs.length ∧ y = .bool x ∧ i = .int .i64 j ∧ Hid (w.grownBy wr none) ∧ Hid ((false && !inH (hs.take j) k) = x)) (fun _ i _ => hs.length - (intOf i).toNat)
    case atStart => exact ⟨0, false, by omega, rfl, rfl, World.grownBy_alloc _ _ none, (by show (false && !inH (hs.take 0) k) = false; simp [inH])⟩
    case round =>
      obtain ⟨j, x, hj, rfl, rfl, hg, hx⟩ := hrel
      have hb2 := hg.out.block hb hhb (by simp)
      by_cases cj : j < hs.length
      · have hdj : decide ((j : Int) < (hs.length : Int)) = true := by simp; omega
        obtain ⟨f, t, hft⟩ : ∃ f t : Int, hs[j]? = some (f, t) := ⟨(hs[j]).1, (hs[j]).2, by rw [List.getElem?_eq_getElem cj]⟩
        have q1 : wr.cell? ⟨hb, j * 2, none⟩ = some (.int .i64 f) := by rw [World.cell?_of_block (w := w) (a := ⟨hb, j * 2, none⟩) hb2]; exact (HH.out j _ hft).1
        have q2 : wr.cell? ⟨hb, j * 2 + 1, none⟩ = some (.int .i64 t) := by rw [World.cell?_of_block (w := w) (a := ⟨hb, j * 2 + 1, none⟩) hb2]; exact (HH.out j _ hft).2
        have NX := loop.out x j f t hft hx.out
        have NX' : Hid _ := NX
        clear NX hft hb2
        cases x
        · have N2 : Hid ((false && !inH (hs.take (j + 1)) k) = false) := by have := NX'.out; rw [this]; rfl
          clear NX'
          go_wp2_with fail
          go_roundw
          case rel => exact ⟨j + 1, false, by omega, rfl, by go_num, grown_trans hg.out (World.grownBy_alloc _ _ none), N2⟩
          case measure => simp [intOf]; omega
        · by_cases c1 : f ≤ k
          · have e1 : decide (f ≤ k) = true := by simp [c1]
            by_cases c2 : k < t
            · have e2 : decide (k < t) = true := by simp [c2]
              have N2 : Hid ((false && !inH (hs.take (j + 1)) k) = false) := by have := NX'.out; rw [this, e1, e2]; rfl
              clear NX'
              go_wp2_with fail
              go_roundw
              case rel => exact ⟨j + 1, false, by omega, rfl, by go_num, grown_trans hg.out (World.grownBy_alloc _ _ none), N2⟩
              case measure => simp [intOf]; omega
            · have e2 : decide (k < t) = false := by simp; omega
              have N2 : Hid ((false && !inH (hs.take (j + 1)) k) = true) := by have := NX'.out; rw [this, e1, e2]; rfl
              clear NX'
              go_wp2_with fail
              go_roundw
              case rel => exact ⟨j + 1, true, by omega, rfl, by go_num, grown_trans hg.out (World.grownBy_alloc _ _ none), N2⟩
              case measure => simp [intOf]; omega
          · have e1 : decide (f ≤ k) = false := by simp; omega
            have N2 : Hid ((false && !inH (hs.take (j + 1)) k) = true) := by have := NX'.out; rw [this, e1]; rfl
            clear NX'
            go_wp2_with fail
            go_roundw
            case rel => exact ⟨j + 1, true, by omega, rfl, by go_num, grown_trans hg.out (World.grownBy_alloc _ _ none), N2⟩
            case measure => simp [intOf]; omega
      · obtain rfl : j = hs.length := by omega
        have e9 : x = z := by
          have h1 := hx.out
          rw [List.take_length] at h1
          rw [← h1, ← HZ.out]; unfold hasH; rw [HF.out]
        subst e9
        clear loop
        go_wp2_with fail
        go_ret
        exact ⟨rfl, none_below hg.out⟩
set_option maxHeartbeats 1000000 in
theorem rcode_any (x u f : Bool) (w : World) : Calls Tryd.prog 31 #[.agg #[.bool x, .bool u, .bool f]] w fun e w' => e = .returned (.int .i64 (codeV x u f)) ∧ Below w.heap.size w w' := by
  cases x <;> cases u <;> cases f <;>
    (go_enter Tryd.func31, Tryd.ntmps31
     go_wp2_with fail
     go_ret
     exact ⟨rfl, below_new (Below.refl _ _) _⟩)
end Go.Proofs.YtaebihgegiddnaaDoor
namespace Go.Proofs.YtaebihgegiddnaaDoor
open Go.ChangeShapes Go.WideShapes Go.ChangeAt Go.RowKit Go.Maps
set_option linter.unusedSimpArgs false
set_option linter.unusedVariables false
set_option maxRecDepth 8000

/-- Has, in any world above -/
theorem rhas_up {w : World} {g : Nat} (cap mb : Nat) (hh : HolesAt w g [(7, 8)]) (hg : g < w.heap.size) : Hid (∀ (k : Int) (W : World), Below w.heap.size w W → Calls Tryd.prog 27 #[.agg #[.int .i64 8, .slice (some ⟨g, 0, none⟩) 1 cap, .map (some mb)], .int .i64 k] W fun e w' => e = .returned (.bool (hasH 8 [(7, 8)] k)) ∧ Below W.heap.size W w') := fun k W hb => by
  refine rhas_map 8 k g cap mb [(7, 8)] W (fun j h e => ?_) (Nat.lt_of_lt_of_le hg hb.size) (by decide)
  have h2 := hh j h e
  rw [World.cell?_of_block (w := w) (a := ⟨g, j * 2, none⟩) (hb.block g hg), World.cell?_of_block (w := w) (a := ⟨g, j * 2 + 1, none⟩) (hb.block g hg)]
  exact h2
/-- what the document's walk answers -/
abbrev WR.ans (r : WR) : Value := .tuple #[.agg #[.int .i64 r.fr, .bool r.pw, .bool r.pu, .bool r.px, .bool r.g, .bool r.l, .bool r.d], .int .i64 r.fc, .int .i64 r.er]
theorem results_three8 {fn : Func} {p q s : Tmp} {t : TypeId} (h : fn.results = #[.cell p t, .tmp q, .tmp s]) (tmps : Array Value) (P : Program) (w : World) (a : Addr) (x y z : Value)
    (ha : tmps.getD p undef = .pointer (some a)) (hb : tmps.getD q undef = y) (hc : tmps.getD s undef = z) (hx : (loadVar t a).run P w = .ok x w) :
    (results fn tmps).run P w = .ok (.tuple #[x, y, z]) w := by
  simp only [results, h]
  have e1 : ∀ W : World, (asAddr (Value.pointer (some a))).run P W = .ok a W := fun _ => rfl
  simp at ha hb hc
  simp [Sem.run_bind, Result.andThen, ha, hb, hc, e1, hx]
theorem below_scs8 {n b : Nat} {w X : World} (h : Below n w X) (hb : n ≤ b) : ∀ (vs : List Value) (o : Nat), Below n w (X.setCells b o vs) := fun vs => by
  induction vs generalizing X with
  | nil => intro o; exact h
  | cons v r ih => intro o; rw [World.setCells]; exact ih (h.setCell hb v) _
theorem rf_info : (Tryd.prog.info? 47).map (·.size) = some 7 := by kernel_rfl

set_option maxHeartbeats 4000000 in
theorem rwalk_arg (root addr : Int) (a0 : 0 ≤ addr) (a1 : addr < 18446744073709551616) (x u f : Bool) (g cap mb : Nat) (M : Int → Int) (w : World) (c1 : ¬ ext addr = addr) :
    Calls Tryd.prog 8 #[.agg #[.int .i64 8, .slice (some ⟨g, 0, none⟩) 1 cap, .map (some mb)], .int .i64 root, .int .u64 addr, .agg #[.bool x, .bool u, .bool f]] w fun e w' =>
      e = .returned (walkW (hasH 8 [(7, 8)]) M root addr x u f).ans ∧ (walkW (hasH 8 [(7, 8)]) M root addr x u f).M = M ∧ Below w.heap.size w w' := by
  have CN := rcanonical_any addr a0 a1
  have CN' : Hid _ := CN
  clear CN
  have e1 : (ext addr == addr) = false := by simp [c1]
  rw [e1] at CN'
  have GL : walkW (hasH 8 [(7, 8)]) M root addr x u f = WR.no M 0 0 1 := by unfold walkW; rw [if_pos (by simp [c1])]
  rw [GL]
  unfold WR.no
  clear e1 c1 GL
  have R0 : Hid (Blk (((w.alloc (.cells #[.int .i64 8, .slice (some ⟨g, 0, none⟩) 1 cap, .map (some mb)] 28)).alloc (.cells #[.bool x, .bool u, .bool f] 34)).alloc (.cells #[.int .i64 0, .bool false, .bool false, .bool false, .bool false, .bool false, .bool false] 47)) w.heap.size [.int .i64 8, .slice (some ⟨g, 0, none⟩) 1 cap, .map (some mb)] 28) := (Blk.made w _ _).below (Go.Joins.below_alloc2 _ _ _)
  have A0 : Hid (Blk (((w.alloc (.cells #[.int .i64 8, .slice (some ⟨g, 0, none⟩) 1 cap, .map (some mb)] 28)).alloc (.cells #[.bool x, .bool u, .bool f] 34)).alloc (.cells #[.int .i64 0, .bool false, .bool false, .bool false, .bool false, .bool false, .bool false] 47)) (w.heap.size + 1) [.bool x, .bool u, .bool f] 34) := by
    have := Blk.made (w.alloc (.cells #[.int .i64 8, .slice (some ⟨g, 0, none⟩) 1 cap, .map (some mb)] 28)) [.bool x, .bool u, .bool f] 34
    rw [World.size_alloc] at this; exact this.below (Go.Joins.below_alloc1 _ _)
  have F0 : Hid (Blk (((w.alloc (.cells #[.int .i64 8, .slice (some ⟨g, 0, none⟩) 1 cap, .map (some mb)] 28)).alloc (.cells #[.bool x, .bool u, .bool f] 34)).alloc (.cells #[.int .i64 0, .bool false, .bool false, .bool false, .bool false, .bool false, .bool false] 47)) (w.heap.size + 1 + 1) [.int .i64 0, .bool false, .bool false, .bool false, .bool false, .bool false, .bool false] 47) := by
    have := Blk.made ((w.alloc (.cells #[.int .i64 8, .slice (some ⟨g, 0, none⟩) 1 cap, .map (some mb)] 28)).alloc (.cells #[.bool x, .bool u, .bool f] 34)) [.int .i64 0, .bool false, .bool false, .bool false, .bool false, .bool false, .bool false] 47
    rw [World.size_alloc, World.size_alloc] at this; exact this
  go_enter Tryd.func8, Tryd.ntmps8
  go_wp2_with fail
  refine (CN'.out _).mono ?_
  rintro e _ ⟨rfl, rfl⟩
  have B1 : Hid (Below w.heap.size w (((w.alloc (.cells #[.int .i64 8, .slice (some ⟨g, 0, none⟩) 1 cap, .map (some mb)] 28)).alloc (.cells #[.bool x, .bool u, .bool f] 34)).alloc (.cells #[.int .i64 0, .bool false, .bool false, .bool false, .bool false, .bool false, .bool false] 47))) := Go.Joins.below_alloc3 _ _ _ _
  obtain ⟨u1, hu⟩ : ∃ u1, u1 = (((w.alloc (.cells #[.int .i64 8, .slice (some ⟨g, 0, none⟩) 1 cap, .map (some mb)] 28)).alloc (.cells #[.bool x, .bool u, .bool f] 34)).alloc (.cells #[.int .i64 0, .bool false, .bool false, .bool false, .bool false, .bool false, .bool false] 47)) := ⟨_, rfl⟩
  rw [← hu] at F0 B1 ⊢
  have F1 : Hid (Blk u1 (w.heap.size + 1 + 1) [.int .i64 0, .bool false, .bool false, .bool false, .bool false, .bool false, .bool false] 47) := F0
  clear hu R0 A0 F0
  have lf : w.heap.size + 1 + 1 < u1.heap.size := blk_lt F1.out
  have qc0 : u1.cell? ⟨(w.heap.size + 1 + 1), 0, none⟩ = some (.int .i64 0) := F1.out.cell 0
  have qf0 : u1.frozen? ⟨(w.heap.size + 1 + 1), 0, none⟩ = false := F1.out.free 0
  have qc1 : u1.cell? ⟨(w.heap.size + 1 + 1), 1, none⟩ = some (.bool false) := F1.out.cell 1
  have qf1 : u1.frozen? ⟨(w.heap.size + 1 + 1), 1, none⟩ = false := F1.out.free 1
  have qc2 : u1.cell? ⟨(w.heap.size + 1 + 1), 2, none⟩ = some (.bool false) := F1.out.cell 2
  have qf2 : u1.frozen? ⟨(w.heap.size + 1 + 1), 2, none⟩ = false := F1.out.free 2
  have qc3 : u1.cell? ⟨(w.heap.size + 1 + 1), 3, none⟩ = some (.bool false) := F1.out.cell 3
  have qf3 : u1.frozen? ⟨(w.heap.size + 1 + 1), 3, none⟩ = false := F1.out.free 3
  have qc4 : u1.cell? ⟨(w.heap.size + 1 + 1), 4, none⟩ = some (.bool false) := F1.out.cell 4
  have qf4 : u1.frozen? ⟨(w.heap.size + 1 + 1), 4, none⟩ = false := F1.out.free 4
  have qc5 : u1.cell? ⟨(w.heap.size + 1 + 1), 5, none⟩ = some (.bool false) := F1.out.cell 5
  have qf5 : u1.frozen? ⟨(w.heap.size + 1 + 1), 5, none⟩ = false := F1.out.free 5
  have qc6 : u1.cell? ⟨(w.heap.size + 1 + 1), 6, none⟩ = some (.bool false) := F1.out.cell 6
  have qf6 : u1.frozen? ⟨(w.heap.size + 1 + 1), 6, none⟩ = false := F1.out.free 6
  go_wp2_with fail
  change bodyPost _ _ _ _ _ (World.setCells u1 (w.heap.size + 1 + 1) 0 [.int .i64 0, .bool false, .bool false, .bool false, .bool false, .bool false, .bool false])
  have hr := run_loadVar_mid (P := Tryd.prog) (World.setCells u1 (w.heap.size + 1 + 1) 0 [.int .i64 0, .bool false, .bool false, .bool false, .bool false, .bool false, .bool false]) (w.heap.size + 1 + 1) 0 47 [.int .i64 0, .bool false, .bool false, .bool false, .bool false, .bool false, .bool false] _ (World.rangeAt_setCells_same _ (w.heap.size + 1 + 1) 0 [.int .i64 0, .bool false, .bool false, .bool false, .bool false, .bool false, .bool false] (show World.there u1 (w.heap.size + 1 + 1) 0 7 from F1.out.there)) Tryd.underlying47 rfl rf_info
  refine bodyPost_ret (v := .tuple #[.agg #[.int .i64 0, .bool false, .bool false, .bool false, .bool false, .bool false, .bool false], .int .i64 0, .int .i64 1]) ?_ rfl ⟨rfl, trivial, below_scs8 B1.out (by omega) _ _⟩
  exact results_three8 Tryd.results8 _ _ _ _ _ _ _ rfl rfl rfl hr
set_option maxHeartbeats 4000000 in
theorem rwalk_bus (root addr : Int) (a0 : 0 ≤ addr) (a1 : addr < 18446744073709551616) (x u f : Bool) (g cap mb : Nat) (M : Int → Int) (w : World) (hh : HolesAt w g [(7, 8)]) (hg : g < w.heap.size) (c1 : ext addr = addr) (c2 : hasH 8 [(7, 8)] root = false) :
    Calls Tryd.prog 8 #[.agg #[.int .i64 8, .slice (some ⟨g, 0, none⟩) 1 cap, .map (some mb)], .int .i64 root, .int .u64 addr, .agg #[.bool x, .bool u, .bool f]] w fun e w' =>
      e = .returned (walkW (hasH 8 [(7, 8)]) M root addr x u f).ans ∧ (walkW (hasH 8 [(7, 8)]) M root addr x u f).M = M ∧ Below w.heap.size w w' := by
  have HC := rhas_up cap mb hh hg
  have CN := rcanonical_any addr a0 a1
  have CN' : Hid _ := CN
  clear CN
  have e1 : (ext addr == addr) = true := by simp [c1]
  rw [e1] at CN'
  have GL : walkW (hasH 8 [(7, 8)]) M root addr x u f = WR.no M 0 0 2 := by unfold walkW; rw [if_neg (by simp [c1]), if_pos c2]
  rw [GL]
  unfold WR.no
  have HR : Hid (hasH 8 [(7, 8)] root = false) := c2
  clear hh e1 c1 c2 GL
  have R0 : Hid (Blk (((w.alloc (.cells #[.int .i64 8, .slice (some ⟨g, 0, none⟩) 1 cap, .map (some mb)] 28)).alloc (.cells #[.bool x, .bool u, .bool f] 34)).alloc (.cells #[.int .i64 0, .bool false, .bool false, .bool false, .bool false, .bool false, .bool false] 47)) w.heap.size [.int .i64 8, .slice (some ⟨g, 0, none⟩) 1 cap, .map (some mb)] 28) := (Blk.made w _ _).below (Go.Joins.below_alloc2 _ _ _)
  have A0 : Hid (Blk (((w.alloc (.cells #[.int .i64 8, .slice (some ⟨g, 0, none⟩) 1 cap, .map (some mb)] 28)).alloc (.cells #[.bool x, .bool u, .bool f] 34)).alloc (.cells #[.int .i64 0, .bool false, .bool false, .bool false, .bool false, .bool false, .bool false] 47)) (w.heap.size + 1) [.bool x, .bool u, .bool f] 34) := by
    have := Blk.made (w.alloc (.cells #[.int .i64 8, .slice (some ⟨g, 0, none⟩) 1 cap, .map (some mb)] 28)) [.bool x, .bool u, .bool f] 34
    rw [World.size_alloc] at this; exact this.below (Go.Joins.below_alloc1 _ _)
  have F0 : Hid (Blk (((w.alloc (.cells #[.int .i64 8, .slice (some ⟨g, 0, none⟩) 1 cap, .map (some mb)] 28)).alloc (.cells #[.bool x, .bool u, .bool f] 34)).alloc (.cells #[.int .i64 0, .bool false, .bool false, .bool false, .bool false, .bool false, .bool false] 47)) (w.heap.size + 1 + 1) [.int .i64 0, .bool false, .bool false, .bool false, .bool false, .bool false, .bool false] 47) := by
    have := Blk.made ((w.alloc (.cells #[.int .i64 8, .slice (some ⟨g, 0, none⟩) 1 cap, .map (some mb)] 28)).alloc (.cells #[.bool x, .bool u, .bool f] 34)) [.int .i64 0, .bool false, .bool false, .bool false, .bool false, .bool false, .bool false] 47
    rw [World.size_alloc, World.size_alloc] at this; exact this
  go_enter Tryd.func8, Tryd.ntmps8
  go_wp2_with fail
  refine (CN'.out _).mono ?_
  rintro e _ ⟨rfl, rfl⟩
  go_wp2_with fail
  refine (HC.out root _ (Go.Joins.below_alloc3 _ _ _ _)).mono ?_
  rintro e u1 ⟨rfl, hb⟩
  rw [HR.out]
  have B1 : Hid (Below w.heap.size w u1) := below_then (Go.Joins.below_alloc3 _ _ _ _) hb
  have F1 : Hid (Blk u1 (w.heap.size + 1 + 1) [.int .i64 0, .bool false, .bool false, .bool false, .bool false, .bool false, .bool false] 47) := F0.out.below hb
  clear hb R0 A0 F0
  have lf : w.heap.size + 1 + 1 < u1.heap.size := blk_lt F1.out
  have qc0 : u1.cell? ⟨(w.heap.size + 1 + 1), 0, none⟩ = some (.int .i64 0) := F1.out.cell 0
  have qf0 : u1.frozen? ⟨(w.heap.size + 1 + 1), 0, none⟩ = false := F1.out.free 0
  have qc1 : u1.cell? ⟨(w.heap.size + 1 + 1), 1, none⟩ = some (.bool false) := F1.out.cell 1
  have qf1 : u1.frozen? ⟨(w.heap.size + 1 + 1), 1, none⟩ = false := F1.out.free 1
  have qc2 : u1.cell? ⟨(w.heap.size + 1 + 1), 2, none⟩ = some (.bool false) := F1.out.cell 2
  have qf2 : u1.frozen? ⟨(w.heap.size + 1 + 1), 2, none⟩ = false := F1.out.free 2
  have qc3 : u1.cell? ⟨(w.heap.size + 1 + 1), 3, none⟩ = some (.bool false) := F1.out.cell 3
  have qf3 : u1.frozen? ⟨(w.heap.size + 1 + 1), 3, none⟩ = false := F1.out.free 3
  have qc4 : u1.cell? ⟨(w.heap.size + 1 + 1), 4, none⟩ = some (.bool false) := F1.out.cell 4
  have qf4 : u1.frozen? ⟨(w.heap.size + 1 + 1), 4, none⟩ = false := F1.out.free 4
  have qc5 : u1.cell? ⟨(w.heap.size + 1 + 1), 5, none⟩ = some (.bool false) := F1.out.cell 5
  have qf5 : u1.frozen? ⟨(w.heap.size + 1 + 1), 5, none⟩ = false := F1.out.free 5
  have qc6 : u1.cell? ⟨(w.heap.size + 1 + 1), 6, none⟩ = some (.bool false) := F1.out.cell 6
  have qf6 : u1.frozen? ⟨(w.heap.size + 1 + 1), 6, none⟩ = false := F1.out.free 6
  go_wp2_with fail
  change bodyPost _ _ _ _ _ (World.setCells u1 (w.heap.size + 1 + 1) 0 [.int .i64 0, .bool false, .bool false, .bool false, .bool false, .bool false, .bool false])
  have hr := run_loadVar_mid (P := Tryd.prog) (World.setCells u1 (w.heap.size + 1 + 1) 0 [.int .i64 0, .bool false, .bool false, .bool false, .bool false, .bool false, .bool false]) (w.heap.size + 1 + 1) 0 47 [.int .i64 0, .bool false, .bool false, .bool false, .bool false, .bool false, .bool false] _ (World.rangeAt_setCells_same _ (w.heap.size + 1 + 1) 0 [.int .i64 0, .bool false, .bool false, .bool false, .bool false, .bool false, .bool false] (show World.there u1 (w.heap.size + 1 + 1) 0 7 from F1.out.there)) Tryd.underlying47 rfl rf_info
  refine bodyPost_ret (v := .tuple #[.agg #[.int .i64 0, .bool false, .bool false, .bool false, .bool false, .bool false, .bool false], .int .i64 0, .int .i64 2]) ?_ rfl ⟨rfl, trivial, below_scs8 B1.out (by omega) _ _⟩
  exact results_three8 Tryd.results8 _ _ _ _ _ _ _ rfl rfl rfl hr
end Go.Proofs.YtaebihgegiddnaaDoor
namespace Go.Proofs.YtaebihgegiddnaaDoor
open Go.ChangeShapes Go.WideShapes Go.ChangeAt Go.RowKit Go.Maps
set_option linter.unusedSimpArgs false
set_option linter.unusedVariables false
set_option maxRecDepth 8000

theorem infoU : ∃ i, Tryd.prog.info? 32 = some i ∧ i.zero = some (.int .u64 0) ∧ i.size = 1 ∧ i.bytes = 8 := ⟨_, rfl, by kernel_rfl, by kernel_rfl, by kernel_rfl⟩
/-- a row of places that the call owns -/
def OwnU (w : World) (base : Nat) (v : Value) (L : List Int) : Prop := w.ownsRow base 32 1 v L.length (L.map (Value.int .u64))
theorem own_keepU {w w' : World} {base n e s : Nat} {v : Value} {xs : List Value} (h : w.ownsRow base e s v n xs) (hb : ∀ g, base ≤ g → g < w.heap.size → w'.heap[g]? = w.heap[g]?) : w'.ownsRow base e s v n xs := by
  obtain ⟨h1, h2⟩ := h
  refine ⟨h1, ?_⟩
  rcases h2 with h2 | ⟨g', cap', cur, e1, e2, e3, e4⟩
  · exact Or.inl h2
  · have hg' : g' < w.heap.size := (Array.getElem?_eq_some_iff.1 e3).1
    exact Or.inr ⟨g', cap', cur, e1, e2, (hb g' e2 hg').trans e3, e4⟩
theorem OwnU.below {w w' : World} {base : Nat} {v : Value} {L : List Int} (h : OwnU w base v L) (hb : Below w.heap.size w w') : OwnU w' base v L := own_keepU h (fun g _ l => hb.block g l)
theorem OwnU.grown {w w' : World} {base b : Nat} {v : Value} {L : List Int} (h : OwnU w base v L) (hb : w.grownBy w' (some b)) (l : b < base) : OwnU w' base v L := own_keepU h (fun g lo hl => hb.block g hl (fun e => by cases e; omega))
theorem OwnU.set {w : World} {base b o : Nat} {v x : Value} {L : List Int} (h : OwnU w base v L) (l : b < base) : OwnU (w.setCell ⟨b, o, none⟩ x) base v L := own_keepU h (fun g lo hl => Below.heap_setCell _ _ _ _ (show g ≠ b by omega))
theorem OwnU.base {w : World} {base : Nat} {v : Value} {L : List Int} (h : OwnU w base v L) : ∀ j, v.ownBlock = some j → base ≤ j := by
  obtain ⟨h1, h2⟩ := h
  rcases h2 with ⟨rfl, _⟩ | ⟨g', cap', cur, rfl, e2, e3, e4⟩
  · intro j e; cases e
  · intro j e; cases e; exact e2
theorem OwnU.made (w : World) {base : Nat} (h : base ≤ w.heap.size) : OwnU (w.alloc (.cells #[] 32)) base (.slice (some ⟨w.heap.size, 0, none⟩) 0 0) [] := by
  refine ⟨rfl, Or.inr ⟨w.heap.size, 0, #[], rfl, h, own_new w _, Nat.le_refl _, by unfold maxLen; omega, rfl, rfl⟩⟩
theorem OwnU.one {w : World} {base : Nat} {v : Value} {L : List Int} {x : Int} (h : w.ownsRow base 32 1 v (L.length + 1) (L.map (Value.int .u64) ++ [.int .u64 x])) : OwnU w base v (L ++ [x]) := by
  unfold OwnU
  rw [List.length_append, List.map_append]; exact h
theorem OwnU.read {w : World} {base : Nat} {v : Value} {L : List Int} (h : OwnU w base v L) : ∃ p c, v = .slice p L.length c ∧ ∀ i (hi : i < L.length), ∃ g, p = some ⟨g, 0, none⟩ ∧ base ≤ g ∧ g < w.heap.size ∧ w.cell? ⟨g, i, none⟩ = some (.int .u64 L[i]) := by
  have hc := fun g (hg : v.ownBlock = some g) => World.ownsRow.cells (g := g) h hg
  obtain ⟨hl, ⟨hv, h0⟩ | ⟨g, cap, cur, hv, hb, hblk, _⟩⟩ := h
  · exact ⟨Option.none, 0, by rw [hv, h0], fun i hi => absurd hi (by omega)⟩
  · refine ⟨_, _, hv, fun i hi => ⟨g, rfl, hb, blk_lt hblk, ?_⟩⟩
    have := hc g (by rw [hv]; rfl) i (.int .u64 L[i]) (by rw [List.getElem?_map, List.getElem?_eq_getElem hi]; rfl)
    rw [Addr.add_mid, Nat.zero_add] at this; exact this
theorem one_newU {w : World} {b : Nat} {x : Int} (h : w.cell? ⟨b, 0, none⟩ = some (.int .u64 x)) : ∀ j u, ([.int .u64 x] : List Value)[j]? = some u → w.cell? ((⟨b, 0, none⟩ : Addr).add j) = some u := by
  intro j u hu
  cases j with
  | zero => cases hu; rw [Addr.add_mid]; exact h
  | succ j => simp at hu
theorem one_oneU (x : Int) : ∀ u ∈ ([.int .u64 x] : List Value), u.oneCell' = true := by
  intro u hu
  simp at hu
  subst hu; rfl
/-- a place is appended -/
theorem app_nextU (base : Nat) (v : Value) (L : List Int) (x : Int) (hL : L.length ≤ 1000) (w : World) (h : OwnU w base v L) (hb : base ≤ w.heap.size) :
    ∃ v' W2, (Builtin.append_ #[87, 87] 87 #[v, .slice (some ⟨w.heap.size, 0, none⟩) 1 1]).run Tryd.prog (w.alloc (.cells #[.int .u64 x] 32)) = .ok v' W2 ∧ OwnU W2 base v' (L ++ [x]) ∧ (w.alloc (.cells #[.int .u64 x] 32)).grownBy W2 v.ownBlock := by
  obtain ⟨i0, hi, hz0, hz1, hz2⟩ := infoU
  have O0 := h.below (Go.Joins.below_alloc1 w (.cells #[.int .u64 x] 32))
  obtain ⟨v', W2, r, ho, hg, _, _⟩ := run_append_own_at (P := Tryd.prog) (w.alloc (.cells #[.int .u64 x] 32)) base 87 87 32 i0 (.int .u64 0) 1 8 Tryd.underlying87 hi hz0 hz1 hz2 rfl (by decide) v L.length (L.map (Value.int .u64)) O0
    ⟨w.heap.size, 0, none⟩ 1 1 [.int .u64 x] rfl (one_newU (Go.Joins.cell_of_block (own_new w _) 0)) (one_oneU x) (by unfold maxLen; omega) (by omega) (by rw [World.size_alloc]; omega)
  exact ⟨v', W2, r, OwnU.one ho, hg⟩
theorem wpList_appU {P : Program} {ops : Array Oper} {rest : List Oper} {o : Oper} {a : Act} {w : World} {Q : Exit → Act → World → Prop} (hgd : o.guard = none) (s x : Operand) (t : TypeId)
    (ho : o.op = .call { callee := .builtin .append, args := #[s, x], argTypes := #[t, t] }) (vs vx : Value) (hs : a.eval s = vs) (hx : a.eval x = vx) (v' : Value) (w1 : World)
    (hr : (Builtin.append_ #[t, t] o.type #[vs, vx]).run P w = .ok v' w1) (h : wpList P ops Q rest (a.put o.dst v') w1) : wpList P ops Q (o :: rest) a w := by
  refine wpList_plain hgd fun K hK => ?_
  unfold Oper.wp execOp
  simp only [ho, resolve, invoke, builtin, Sem.run_bind, Sem.run_pure, Result.andThen_ok, List.map_toArray, List.map_cons, List.map_nil, hs, hx, hr]
  exact hK _ _ h
/-- an entry can be read where its table's frame is there -/
theorem chk_ent (has : Int → Bool) (T P : Int) (t0 : 0 ≤ T) (t1 : T < 1048576) (p0 : 0 ≤ P) (p1 : P < 512) : chkG has (T * 4096 + P * 8) 8 = if has T = true then 0 else 2 := by
  unfold chkG
  rw [if_pos (by omega), show (T * 4096 + P * 8) / 4096 = T by omega, show (T * 4096 + P * 8 + 8 - 1) / 4096 = T by omega]
  by_cases c : has T = true
  · rw [if_pos ⟨by omega, c, c⟩, if_pos c]
  · rw [if_neg (fun h => c h.2.1), if_neg c]
/-- one level -/
theorem rest_step (has : Int → Bool) (M : Int → Int) (addr cd : Int) (x u f : Bool) (L : Nat) (T : Int) (acc : List (Int × Int)) (t0 : 0 ≤ T) (t1 : T < 1048576) :
    (has T = false ∧ restW has M addr cd x u f (L + 1) T acc = WR.no M 0 0 2) ∨
    (has T = true ∧ bt (entV M T (pL addr (L + 1))) = false ∧ restW has M addr cd x u f (L + 1) T acc = WR.no M addr cd 9) ∨
    (has T = true ∧ bt (entV M T (pL addr (L + 1))) = true ∧ resV (entV M T (pL addr (L + 1))) ((L + 1 : Nat) : Int) = true ∧ restW has M addr cd x u f (L + 1) T acc = WR.no M addr (cd + 9) 9) ∨
    (has T = true ∧ bt (entV M T (pL addr (L + 1))) = true ∧ resV (entV M T (pL addr (L + 1))) ((L + 1 : Nat) : Int) = false ∧ (L = 0 ∨ (L = 1 ∧ bt (entV M T (pL addr (L + 1)) / 128) = true)) ∧ restW has M addr cd x u f (L + 1) T acc = endL M addr cd x u f (acc ++ [(T, pL addr (L + 1))]) (entV M T (pL addr (L + 1))) (decide (L = 1))) ∨
    (has T = true ∧ bt (entV M T (pL addr (L + 1))) = true ∧ resV (entV M T (pL addr (L + 1))) ((L + 1 : Nat) : Int) = false ∧ ¬ (L = 0 ∨ (L = 1 ∧ bt (entV M T (pL addr (L + 1)) / 128) = true)) ∧ restW has M addr cd x u f (L + 1) T acc = restW has M addr cd x u f L (entV M T (pL addr (L + 1)) / 4096 % 1048576) (acc ++ [(T, pL addr (L + 1))])) := by
  have p0 : 0 ≤ pL addr (L + 1) ∧ pL addr (L + 1) < 512 := by unfold pL; constructor <;> omega
  have ck := chk_ent has T (pL addr (L + 1)) t0 t1 p0.1 p0.2
  rw [restW]
  unfold badV
  cases c0 : has T
  · rw [c0] at ck
    rw [if_pos (by rw [ck]; decide), ck]
    exact Or.inl ⟨rfl, rfl⟩
  · rw [c0] at ck
    rw [if_neg (by rw [ck]; decide)]
    cases c1 : bt (entV M T (pL addr (L + 1)))
    · exact Or.inr (Or.inl ⟨rfl, rfl, rfl⟩)
    · cases c2 : resV (entV M T (pL addr (L + 1))) ((L + 1 : Nat) : Int)
      · by_cases c3 : L = 0 ∨ (L = 1 ∧ bt (entV M T (pL addr (L + 1)) / 128) = true)
        · exact Or.inr (Or.inr (Or.inr (Or.inl ⟨rfl, rfl, rfl, c3, by simp only [Bool.true_eq_false, Bool.false_eq_true, if_false]; rw [if_pos c3]⟩)))
        · exact Or.inr (Or.inr (Or.inr (Or.inr ⟨rfl, rfl, rfl, c3, by simp only [Bool.true_eq_false, Bool.false_eq_true, if_false]; rw [if_neg c3]⟩)))
      · exact Or.inr (Or.inr (Or.inl ⟨rfl, rfl, rfl, rfl⟩))
end Go.Proofs.YtaebihgegiddnaaDoor
namespace Go.Proofs.YtaebihgegiddnaaDoor
open Go.ChangeShapes Go.WideShapes Go.ChangeAt Go.RowKit Go.Maps
set_option linter.unusedSimpArgs false
set_option linter.unusedVariables false
set_option maxRecDepth 8000

/-- a place's address -/
def plA (q : Int × Int) : Int := q.1 * 4096 + q.2 * 8
theorem pl_snoc (acc : List (Int × Int)) (T P : Int) : acc.map plA ++ [T * 4096 + 8 * P] = (acc ++ [(T, P)]).map plA := by
  rw [List.map_append]; simp [plA]; omega
/-- the worlds of the loop -/
structure Lw (w wr : World) (g cap mb : Nat) (x u f : Bool) (fb : Nat) (M : Int → Int) (acc : List (Int × Int)) (y : Value) : Prop where
  bel : Below w.heap.size w wr
  r : Blk wr w.heap.size [.int .i64 8, .slice (some ⟨g, 0, none⟩) 1 cap, .map (some mb)] 28
  a : Blk wr (w.heap.size + 1) [.bool x, .bool u, .bool f] 34
  z : Blk wr (w.heap.size + 1 + 1) [.int .i64 0, .bool false, .bool false, .bool false, .bool false, .bool false, .bool false] 47
  h : Blk wr fb [.int .i64 0, .bool (allW M acc), .bool (allU M acc), .bool (allX M acc), .bool false, .bool false, .bool false] 47
  own : OwnU wr (fb + 1) y (acc.map plA)
  lo : w.heap.size + 1 + 1 < fb
theorem Lw.below {w wr W : World} {g cap mb : Nat} {x u f : Bool} {fb : Nat} {M : Int → Int} {acc : List (Int × Int)} {y : Value} (h : Lw w wr g cap mb x u f fb M acc y) (hb : Below wr.heap.size wr W) : Lw w W g cap mb x u f fb M acc y :=
  ⟨below_then h.bel hb, h.r.below hb, h.a.below hb, h.z.below hb, h.h.below hb, h.own.below hb, h.lo⟩
/-- within a round: the entry's box, too -/
structure Mid (w W : World) (g cap mb : Nat) (x u f : Bool) (fb eb : Nat) (X : Int) (hv : List Value) (pl : List Int) (y : Value) : Prop where
  bel : Below w.heap.size w W
  r : Blk W w.heap.size [.int .i64 8, .slice (some ⟨g, 0, none⟩) 1 cap, .map (some mb)] 28
  a : Blk W (w.heap.size + 1) [.bool x, .bool u, .bool f] 34
  z : Blk W (w.heap.size + 1 + 1) [.int .i64 0, .bool false, .bool false, .bool false, .bool false, .bool false, .bool false] 47
  h : Blk W fb hv 47
  e : Blk W eb [.bool true, .bool (bt (X / 2)), .bool (bt (X / 4)), .bool (bt (X / 32)), .bool (bt (X / 64)), .bool (bt (X / 128)), .bool (bt (X / 256)), .bool (bt (X / 9223372036854775808)), .int .i64 (X / 4096 % 1048576)] 90
  own : OwnU W (fb + 1) y pl
  lo : w.heap.size + 1 + 1 < fb
  hi : fb < eb
theorem Mid.set {w W : World} {g cap mb : Nat} {x u f : Bool} {fb eb : Nat} {X : Int} {hv : List Value} {pl : List Int} {y : Value} (m : Mid w W g cap mb x u f fb eb X hv pl y) (i : Nat) (v : Value) : Mid w (W.setCell ⟨fb, i, none⟩ v) g cap mb x u f fb eb X (hv.set i v) pl y := by
  have lo := m.lo
  have hi := m.hi
  have hs : ∀ b, b ≠ fb → (W.setCell ⟨fb, i, none⟩ v).heap[b]? = W.heap[b]? := fun b h => Below.heap_setCell _ _ _ _ h
  exact ⟨m.bel.setCell (by show w.heap.size ≤ fb; omega) v, (hs _ (by omega)).trans m.r, (hs _ (by omega)).trans m.a, (hs _ (by omega)).trans m.z, m.h.set i v, (hs _ (by omega)).trans m.e, m.own.set (by omega), lo, hi⟩
/-- behind the loop -/
structure Lx (w W : World) (g cap mb : Nat) (x u f : Bool) (fb : Nat) (hv : List Value) (acc : List (Int × Int)) (y : Value) : Prop where
  bel : Below w.heap.size w W
  r : Blk W w.heap.size [.int .i64 8, .slice (some ⟨g, 0, none⟩) 1 cap, .map (some mb)] 28
  a : Blk W (w.heap.size + 1) [.bool x, .bool u, .bool f] 34
  z : Blk W (w.heap.size + 1 + 1) [.int .i64 0, .bool false, .bool false, .bool false, .bool false, .bool false, .bool false] 47
  h : Blk W fb hv 47
  own : OwnU W (fb + 1) y (acc.map plA)
  lo : w.heap.size + 1 + 1 < fb
theorem Lx.below {w wr W : World} {g cap mb : Nat} {x u f : Bool} {fb : Nat} {hv : List Value} {acc : List (Int × Int)} {y : Value} (h : Lx w wr g cap mb x u f fb hv acc y) (hb : Below wr.heap.size wr W) : Lx w W g cap mb x u f fb hv acc y :=
  ⟨below_then h.bel hb, h.r.below hb, h.a.below hb, h.z.below hb, h.h.below hb, h.own.below hb, h.lo⟩
theorem Lx.drew {w W : World} {g cap mb : Nat} {x u f : Bool} {fb : Nat} {hv : List Value} {acc : List (Int × Int)} {y : Value} (h : Lx w W g cap mb x u f fb hv acc y) : Lx w W.drew g cap mb x u f fb hv acc y :=
  ⟨below_drw h.bel, h.r, h.a, h.z, h.h, own_keepU h.own (fun _ _ _ => rfl), h.lo⟩
theorem Mid.out {w W : World} {g cap mb : Nat} {x u f : Bool} {fb eb : Nat} {X : Int} {hv : List Value} {acc : List (Int × Int)} {T P : Int} {y : Value} (m : Mid w W g cap mb x u f fb eb X hv (acc.map plA ++ [T * 4096 + 8 * P]) y) : Lx w W g cap mb x u f fb hv (acc ++ [(T, P)]) y :=
  ⟨m.bel, m.r, m.a, m.z, m.h, by rw [← pl_snoc]; exact m.own, m.lo⟩
theorem Mid.lw {w W : World} {g cap mb : Nat} {x u f : Bool} {fb eb : Nat} {X : Int} {M : Int → Int} {acc : List (Int × Int)} {T P : Int} {y : Value} (m : Mid w W g cap mb x u f fb eb X [.int .i64 0, .bool (allW M (acc ++ [(T, P)])), .bool (allU M (acc ++ [(T, P)])), .bool (allX M (acc ++ [(T, P)])), .bool false, .bool false, .bool false] (acc.map plA ++ [T * 4096 + 8 * P]) y) : Lw w W g cap mb x u f fb M (acc ++ [(T, P)]) y :=
  ⟨m.bel, m.r, m.a, m.z, m.h, by rw [← pl_snoc]; exact m.own, m.lo⟩
theorem blk_app {W u6 : World} {o : Obj} {v : Value} {b : Nat} {C : List Value} {t : TypeId} (hB : Blk W b C t) (ne : v.ownBlock ≠ some b) (g1 : (W.alloc o).grownBy u6 v.ownBlock) : Blk u6 b C t :=
  (g1.block b (by rw [World.size_alloc]; have := blk_lt hB; omega) (fun e => ne e.symm)).trans (hB.below (Go.Joins.below_alloc1 _ _))
theorem OwnU.lt {w : World} {base : Nat} {v : Value} {L : List Int} (h : OwnU w base v L) : ∀ j, v.ownBlock = some j → j < w.heap.size := by
  obtain ⟨h1, h2⟩ := h
  rcases h2 with ⟨rfl, _⟩ | ⟨g', cap', cur, rfl, e2, e3, e4⟩
  · intro j e; cases e
  · intro j e; cases e; exact blk_lt e3
/-- the append of a round -/
theorem mid_app {w u4 : World} {g cap mb : Nat} {x u f : Bool} {fb : Nat} {M : Int → Int} {acc : List (Int × Int)} {y : Value} (X A : Int) (hl : acc.length ≤ 3) (h : Lw w u4 g cap mb x u f fb M acc y) :
    ∃ v5 u6, (Builtin.append_ #[87, 87] 87 #[y, .slice (some ⟨u4.heap.size + 1, 0, none⟩) 1 1]).run Tryd.prog ((u4.alloc (.cells #[.bool true, .bool (bt (X / 2)), .bool (bt (X / 4)), .bool (bt (X / 32)), .bool (bt (X / 64)), .bool (bt (X / 128)), .bool (bt (X / 256)), .bool (bt (X / 9223372036854775808)), .int .i64 (X / 4096 % 1048576)] 90)).alloc (.cells #[.int .u64 A] 32)) = .ok v5 u6 ∧ Mid w u6 g cap mb x u f fb u4.heap.size X [.int .i64 0, .bool (allW M acc), .bool (allU M acc), .bool (allX M acc), .bool false, .bool false, .bool false] (acc.map plA ++ [A]) v5 := by
  have lf4 : fb < u4.heap.size := blk_lt h.h
  have W5 : Lw w (u4.alloc (.cells #[.bool true, .bool (bt (X / 2)), .bool (bt (X / 4)), .bool (bt (X / 32)), .bool (bt (X / 64)), .bool (bt (X / 128)), .bool (bt (X / 256)), .bool (bt (X / 9223372036854775808)), .int .i64 (X / 4096 % 1048576)] 90)) g cap mb x u f fb M acc y := h.below (Go.Joins.below_alloc1 _ _)
  have E5 : Blk (u4.alloc (.cells #[.bool true, .bool (bt (X / 2)), .bool (bt (X / 4)), .bool (bt (X / 32)), .bool (bt (X / 64)), .bool (bt (X / 128)), .bool (bt (X / 256)), .bool (bt (X / 9223372036854775808)), .int .i64 (X / 4096 % 1048576)] 90)) u4.heap.size [.bool true, .bool (bt (X / 2)), .bool (bt (X / 4)), .bool (bt (X / 32)), .bool (bt (X / 64)), .bool (bt (X / 128)), .bool (bt (X / 256)), .bool (bt (X / 9223372036854775808)), .int .i64 (X / 4096 % 1048576)] 90 := Blk.made u4 [.bool true, .bool (bt (X / 2)), .bool (bt (X / 4)), .bool (bt (X / 32)), .bool (bt (X / 64)), .bool (bt (X / 128)), .bool (bt (X / 256)), .bool (bt (X / 9223372036854775808)), .int .i64 (X / 4096 % 1048576)] 90
  obtain ⟨v5, u6, r1, o1, g1⟩ := app_nextU (fb + 1) y (acc.map plA) A (by rw [List.length_map]; omega) _ W5.own (by rw [World.size_alloc]; omega)
  rw [World.size_alloc] at r1
  have ow := W5.own.base
  have ol := h.own.lt
  have nb : ∀ b, b ≤ fb → y.ownBlock ≠ some b := fun b hb e => by have := ow b e; omega
  have lo := W5.lo
  exact ⟨v5, u6, r1, (below_new W5.bel _).grown g1 (below_new W5.bel _).size (fun j ej => by have := ow j ej; omega), blk_app W5.r (nb _ (by omega)) g1, blk_app W5.a (nb _ (by omega)) g1, blk_app W5.z (nb _ (by omega)) g1, blk_app W5.h (nb _ (by omega)) g1, blk_app E5 (fun e => by have := ol _ e; omega) g1, o1, lo, lf4⟩
/-- marks, one by one -/
theorem marks_mk {M : Int → Int} (hM : ∀ t, 0 ≤ M t ∧ M t < 256) (acc : List (Int × Int)) (x : Bool) : ∀ k, k < acc.length → Mk M (marksN M acc x k) := by
  intro k
  induction k with
  | zero => intro _; exact Mk.refl M
  | succ k ih =>
    intro hk
    have h1 : acc[k]? = some acc[k] := List.getElem?_eq_getElem (by omega)
    obtain ⟨T, P, e⟩ : ∃ T P, acc[k] = (T, P) := ⟨acc[k].1, acc[k].2, rfl⟩
    rw [e] at h1
    rw [marksN, h1]
    have d : (x && decide (k + 1 = acc.length)) = false := by
      rw [decide_eq_false (by omega)]; simp
    simp only [d, Bool.false_eq_true, if_false]
    exact mk_next hM (ih (by omega)) T P
theorem marks_byte {M : Int → Int} (hM : ∀ t, 0 ≤ M t ∧ M t < 256) (acc : List (Int × Int)) (x : Bool) : ∀ k t, 0 ≤ marksN M acc x k t ∧ marksN M acc x k t < 256 := by
  intro k
  induction k with
  | zero => exact hM
  | succ k ih =>
    intro t
    rw [marksN]
    cases h : acc[k]? with
    | none => exact ih t
    | some q => obtain ⟨T, P⟩ := q; exact mset_byte ih _ _ _ t
theorem marks_next {M : Int → Int} {acc : List (Int × Int)} {x : Bool} {k : Nat} {T P : Int} (h : acc[k]? = some (T, P)) : marksN M acc x (k + 1) = mset (marksN M acc x k) (T * 4096 + P * 8) 8 (orb (entV M T P) (if x && decide (k + 1 = acc.length) then 96 else 32)) := by
  rw [marksN, h]
/-- what the document's loop over the places keeps -/
structure Lm (w W : World) (g cap mb m : Nat) (x u f : Bool) (fb gg : Nat) (hv : List Value) (M : Int → Int) (acc : List (Int × Int)) (k : Nat) : Prop where
  gr : w.grownBy W (some mb)
  mem : BMem W mb (m + 8 * k) (marksN M acc x k)
  r : Blk W w.heap.size [.int .i64 8, .slice (some ⟨g, 0, none⟩) 1 cap, .map (some mb)] 28
  a : Blk W (w.heap.size + 1) [.bool x, .bool u, .bool f] 34
  z : Blk W (w.heap.size + 1 + 1) [.int .i64 0, .bool false, .bool false, .bool false, .bool false, .bool false, .bool false] 47
  h : Blk W fb hv 47
  rd : ∀ i q, acc[i]? = some q → W.cell? ⟨gg, i, none⟩ = some (.int .u64 (plA q))
  lg : gg < W.heap.size
  lo : w.heap.size + 1 + 1 < fb
  hi : fb < gg
  lm : mb < w.heap.size
theorem Lm.below {w W W' : World} {g cap mb m : Nat} {x u f : Bool} {fb gg : Nat} {hv : List Value} {M : Int → Int} {acc : List (Int × Int)} {k : Nat} (h : Lm w W g cap mb m x u f fb gg hv M acc k) (hb : Below W.heap.size W W') : Lm w W' g cap mb m x u f fb gg hv M acc k where
  gr := ⟨hb.os.trans h.gr.os, hb.tape.trans h.gr.tape, hb.output.trans h.gr.output, Nat.le_trans h.gr.size hb.size, fun j hj hne => (hb.block j (Nat.lt_of_lt_of_le hj h.gr.size)).trans (h.gr.block j hj hne)⟩
  mem := h.mem.kept (below_g0 hb) (by simp)
  r := h.r.below hb
  a := h.a.below hb
  z := h.z.below hb
  h := h.h.below hb
  rd := fun i q e => (World.cell?_of_block (w := W) (a := ⟨gg, i, none⟩) (hb.block gg h.lg)).trans (h.rd i q e)
  lg := Nat.lt_of_lt_of_le h.lg hb.size
  lo := h.lo
  hi := h.hi
  lm := h.lm
theorem Lm.next {w W W' : World} {g cap mb m : Nat} {x u f : Bool} {fb gg : Nat} {hv : List Value} {M : Int → Int} {acc : List (Int × Int)} {k : Nat} {T P : Int} (h : Lm w W g cap mb m x u f fb gg hv M acc k) (e : acc[k]? = some (T, P))
    (hm : BMem W' mb (m + 8 * k + 8) (mset (marksN M acc x k) (T * 4096 + P * 8) 8 (orb (entV M T P) (if x && decide (k + 1 = acc.length) then 96 else 32)))) (hg : W.grownBy W' (some mb)) : Lm w W' g cap mb m x u f fb gg hv M acc (k + 1) := by
  have lo := h.lo
  have hi := h.hi
  have lm := h.lm
  have kb : ∀ b, b < W.heap.size → b ≠ mb → W'.heap[b]? = W.heap[b]? := fun b l ne => hg.block b l (fun e => ne (Option.some.inj e))
  exact ⟨⟨hg.os.trans h.gr.os, hg.tape.trans h.gr.tape, hg.output.trans h.gr.output, Nat.le_trans h.gr.size hg.size, fun j hj hne => (hg.block j (Nat.lt_of_lt_of_le hj h.gr.size) hne).trans (h.gr.block j hj hne)⟩,
    by rw [marks_next e, Nat.mul_add]; exact hm,
    (kb _ (blk_lt h.r) (by omega)).trans h.r, (kb _ (blk_lt h.a) (by omega)).trans h.a, (kb _ (blk_lt h.z) (by omega)).trans h.z, (kb _ (blk_lt h.h) (by omega)).trans h.h,
    fun i q e => (World.cell?_of_block (w := W) (a := ⟨gg, i, none⟩) (kb gg h.lg (by omega))).trans (h.rd i q e), Nat.lt_of_lt_of_le h.lg hg.size, lo, hi, lm⟩
/-- behind the loop over the levels: how it begins -/
theorem Lx.marks {w W : World} {g cap mb m : Nat} {x u f : Bool} {fb : Nat} {hv : List Value} {M : Int → Int} {acc : List (Int × Int)} {y : Value} (h : Lx w W g cap mb x u f fb hv acc y) (hm : BMem w mb m M) (hn : 1 ≤ acc.length) : ∃ gg c, y = .slice (some ⟨gg, 0, none⟩) acc.length c ∧ Lm w W g cap mb m x u f fb gg hv M acc 0 := by
  obtain ⟨p, c, hy, rd⟩ := h.own.read
  rw [List.length_map] at hy
  obtain ⟨gg, hp, hb, hl, _⟩ := rd 0 (by rw [List.length_map]; omega)
  subst hp
  refine ⟨gg, c, hy, ⟨⟨h.bel.os, h.bel.tape, h.bel.output, h.bel.size, fun j hj _ => h.bel.block j hj⟩, hm.kept (below_g0 h.bel) (by simp), h.r, h.a, h.z, h.h, fun i q e => ?_, hl, h.lo, by omega, hm.lt⟩⟩
  have hi : i < acc.length := (List.getElem?_eq_some_iff.1 e).1
  obtain ⟨g', hp', _, _, hc⟩ := rd i (by rw [List.length_map]; omega)
  cases hp'
  rw [hc, List.getElem_map]
  have := (List.getElem?_eq_some_iff.1 e).2
  rw [this]
theorem code_bd (x u f : Bool) : 0 ≤ codeV x u f ∧ codeV x u f ≤ 22 := by cases x <;> cases u <;> cases f <;> decide
theorem setB_lt {v : Int} (h0 : 0 ≤ v) (h1 : v < 18446744073709551616) (k : Nat) (hk : k = 5 ∨ k = 6) : 0 ≤ setB v k ∧ setB v k < 18446744073709551616 := by
  rw [set_or v k h0 h1 hk]
  rcases hk with rfl | rfl
  · exact orb_bd v _ h0 h1 (by simp) (by simp)
  · exact orb_bd v _ h0 h1 (by simp) (by simp)
end Go.Proofs.YtaebihgegiddnaaDoor
