/- The contracts of the document's own functions of layer 3, further. -/
import Derived.Test.YtnjoiknfaibheaaDoorP9
namespace Go.Proofs.YtnjoiknfaibheaaDoor
open Go.ChangeShapes Go.WideShapes Go.ChangeAt Go.RowKit
set_option linter.unusedSimpArgs false
set_option linter.unusedVariables false

theorem mod_pow_le (z : Int) (z0 : 0 ≤ z) (m : Nat) : ∀ n, z % 2 ^ m ≠ 0 → z % 2 ^ (m + n) ≠ 0
  | 0, h => h
  | n + 1, h => by
    have ih := mod_pow_le z z0 m n h
    have e := mod_succ z z0 (m + n)
    have hp : (0 : Int) < 2 ^ (m + n) := Int.pow_pos (by omega)
    have h1 := Int.emod_nonneg z (show (2 : Int) ^ (m + n) ≠ 0 by omega)
    have h2 : 0 ≤ z / 2 ^ (m + n) % 2 * 2 ^ (m + n) := Int.mul_nonneg (by omega) (by omega)
    rw [show m + (n + 1) = m + n + 1 by omega, e]
    omega
set_option maxHeartbeats 1000000 in
theorem any_any (x : Int) (x0 : 0 ≤ x) (x1 : x < 18446744073709551616) (a n : Nat) (hn : a + n ≤ 63) (w : World) :
    Calls Tryd.prog 25 #[.int .u64 x, .int .i64 a, .int .i64 ((a : Int) + n)] w fun e w' => e = .returned (.bool (x / 2 ^ a % 2 ^ (n + 1) != 0)) ∧ w' = w := by
  have B := bit_c x x0 x1
  obtain ⟨R, hR⟩ : ∃ R, (x / 2 ^ a % 2 ^ (n + 1) != 0) = R := ⟨_, rfl⟩
  have HR : Hid ((x / 2 ^ a % 2 ^ (n + 1) != 0) = R) := hR
  rw [hR]
  clear hR
  go_enter Tryd.func25, Tryd.ntmps25
  go_wp2_with fail
  go_loop [7] (fun i => ∃ j : Nat, j ≤ n + 1 ∧ i = .int .i64 ((a : Int) + j) ∧ x / 2 ^ a % 2 ^ j = 0) (fun i => (a + n + 1 - intOf i).toNat)
  case atStart => exact ⟨0, by omega, by simp, by rw [Int.pow_zero, Int.emod_one]⟩
  case round =>
    obtain ⟨j, hj, rfl, hz⟩ := hrel
    have HZ : Hid (x / 2 ^ a % 2 ^ j = 0) := hz
    clear hz
    by_cases h0 : j = n + 1
    · subst h0
      have ej : ((a : Int) + ((n + 1 : Nat) : Int)) = (a : Int) + n + 1 := by omega
      rw [ej]
      clear ej
      go_wp2_with fail
      go_ret
      exact ⟨by rw [← HR.out, HZ.out]; rfl, rfl⟩
    · have Bm := B.out ((a : Int) + (j : Int)) (by omega) (by omega)
      rw [show ((a : Int) + (j : Int)).toNat = a + j by omega] at Bm
      have hm : j < n + 1 := by omega
      have hb := bt_cases (x / 2 ^ (a + j))
      have e1 := mod_succ (x / 2 ^ a) (div_nn x x0 a) j
      rw [← div_add, HZ.out, Int.zero_add] at e1
      clear h0 hj B HZ
      rcases hb with ⟨hb1, hb2⟩ | ⟨hb1, hb2⟩
      · rw [hb2, Int.one_mul] at e1
        have E1 : Hid (x / 2 ^ a % 2 ^ (j + 1) ≠ 0) := by
          have hp : (0 : Int) < 2 ^ j := Int.pow_pos (by omega)
          show x / 2 ^ a % 2 ^ (j + 1) ≠ 0
          omega
        rw [hb1] at Bm
        have Bh : Hid (∀ w : World, Calls Tryd.prog 23 #[.int .u64 x, .int .i64 ((a : Int) + (j : Int))] w fun e w' => e = .returned (.bool true) ∧ w' = w) := Bm
        clear e1 hb1 hb2 Bm
        go_wp2_with fail
        refine (Bh.out _).mono ?_
        rintro e w1 ⟨rfl, rfl⟩
        go_wp2_with fail
        go_ret
        refine ⟨?_, rfl⟩
        have := mod_pow_le (x / 2 ^ a) (div_nn x x0 a) (j + 1) (n - j) E1.out
        rw [show j + 1 + (n - j) = n + 1 by omega] at this
        rw [← HR.out, bne_iff_ne.2 this]; rfl
      · rw [hb2, Int.zero_mul] at e1
        have E1 : Hid (x / 2 ^ a % 2 ^ (j + 1) = 0) := e1
        rw [hb1] at Bm
        have Bh : Hid (∀ w : World, Calls Tryd.prog 23 #[.int .u64 x, .int .i64 ((a : Int) + (j : Int))] w fun e w' => e = .returned (.bool false) ∧ w' = w) := Bm
        clear e1 hb1 hb2 Bm
        go_wp2_with fail
        refine (Bh.out _).mono ?_
        rintro e w1 ⟨rfl, rfl⟩
        go_wp2_with fail
        go_round
        case rel => exact ⟨j + 1, by omega, by simp; omega, E1.out⟩
        case measure => simp [intOf]; omega
theorem canon_iff (x : Int) (x0 : 0 ≤ x) (x1 : x < 18446744073709551616) : (ext x = x) ↔ (x / 140737488355328 % 131072 = 0 ∨ x / 140737488355328 % 131072 = 131071) := by
  unfold ext; split <;> omega
theorem canon_bits (x : Int) (j : Nat) (hj : j ≤ 16) (h : x / 140737488355328 % 131072 = 0 ∨ x / 140737488355328 % 131072 = 131071) : bt (x / 2 ^ (47 + j)) = bt (x / 2 ^ 47) := by
  rw [div_add]
  simp only [Int.reducePow]
  apply bt_of
  generalize x / 140737488355328 = z at *
  rcases (show j = 0 ∨ j = 1 ∨ j = 2 ∨ j = 3 ∨ j = 4 ∨ j = 5 ∨ j = 6 ∨ j = 7 ∨ j = 8 ∨ j = 9 ∨ j = 10 ∨ j = 11 ∨ j = 12 ∨ j = 13 ∨ j = 14 ∨ j = 15 ∨ j = 16 by omega) with rfl | rfl | rfl | rfl | rfl | rfl | rfl | rfl | rfl | rfl | rfl | rfl | rfl | rfl | rfl | rfl | rfl <;> simp only [Int.reducePow, Int.ediv_one] <;> omega
set_option maxHeartbeats 1000000 in
theorem rcanonical_any (x : Int) (x0 : 0 ≤ x) (x1 : x < 18446744073709551616) (w : World) :
    Calls Tryd.prog 19 #[.int .u64 x] w fun e w' => e = .returned (.bool (ext x == x)) ∧ w' = w := by
  have B := bit_c x x0 x1
  obtain ⟨R, hR⟩ : ∃ R, (ext x == x) = R := ⟨_, rfl⟩
  have HR : Hid ((ext x == x) = R) := hR
  obtain ⟨b, hb⟩ : ∃ b, bt (x / 2 ^ 47) = b := ⟨_, rfl⟩
  have HB : Hid (bt (x / 2 ^ 47) = b) := hb
  have B47 := B.out 47 (by omega) (by omega)
  rw [show (47 : Int).toNat = 47 from rfl, hb] at B47
  have H47 : Hid (∀ w : World, Calls Tryd.prog 23 #[.int .u64 x, .int .i64 47] w fun e w' => e = .returned (.bool b) ∧ w' = w) := B47
  rw [hR]
  clear hR hb B47
  go_enter Tryd.func19, Tryd.ntmps19
  go_wp2_with fail
  go_loop [3] (fun i => ∃ j : Nat, j ≤ 17 ∧ i = .int .i64 (47 + (j : Int)) ∧ x / 2 ^ 47 % 2 ^ j = fl b (2 ^ j - 1)) (fun i => (64 - intOf i).toNat)
  case atStart => exact ⟨0, by omega, rfl, by rw [Int.pow_zero, Int.emod_one]; cases b <;> rfl⟩
  case round =>
    obtain ⟨j, hj, rfl, hz⟩ := hrel
    have HZ : Hid (x / 2 ^ 47 % 2 ^ j = fl b (2 ^ j - 1)) := hz
    clear hz
    by_cases h0 : j = 17
    · subst h0
      have ej : (47 + ((17 : Nat) : Int)) = 64 := rfl
      rw [ej]
      clear ej
      go_wp2_with fail
      go_ret
      refine ⟨?_, rfl⟩
      have h := HZ.out
      simp only [Int.reducePow] at h
      have : ext x = x := (canon_iff x x0 x1).2 (by cases b; · exact Or.inl h
                                                    · exact Or.inr h)
      rw [← HR.out, beq_iff_eq.2 this]; rfl
    · have Bm := B.out (47 + (j : Int)) (by omega) (by omega)
      rw [show (47 + (j : Int)).toNat = 47 + j by omega] at Bm
      have hm : j < 17 := by omega
      have hm' : 47 + (j : Int) < 64 := by omega
      have e1 := mod_succ (x / 2 ^ 47) (div_nn x x0 47) j
      rw [← div_add, HZ.out] at e1
      obtain ⟨c, hc⟩ : ∃ c, bt (x / 2 ^ (47 + j)) = c := ⟨_, rfl⟩
      rw [hc] at Bm
      have Bh : Hid (∀ w : World, Calls Tryd.prog 23 #[.int .u64 x, .int .i64 (47 + (j : Int))] w fun e w' => e = .returned (.bool c) ∧ w' = w) := Bm
      by_cases hcb : c = b
      · subst hcb
        have hcc := bt_cases (x / 2 ^ (47 + j))
        rw [hc] at hcc
        have E1 : Hid (x / 2 ^ 47 % 2 ^ (j + 1) = fl c (2 ^ (j + 1) - 1)) := by
          rcases hcc with ⟨q1, q2⟩ | ⟨q1, q2⟩
          · rw [q2] at e1
            subst q1
            rw [fl_true] at e1
            show x / 2 ^ 47 % 2 ^ (j + 1) = fl true (2 ^ (j + 1) - 1)
            rw [fl_true, e1, Int.pow_succ]; omega
          · rw [q2] at e1
            subst q1
            rw [fl_false] at e1
            show x / 2 ^ 47 % 2 ^ (j + 1) = fl false (2 ^ (j + 1) - 1)
            rw [fl_false, e1]; omega
        clear h0 hj B HZ e1 hc Bm hcc
        cases c
        · go_wp2_with fail
          refine (Bh.out _).mono ?_
          rintro e w1 ⟨rfl, rfl⟩
          go_wp2_with fail
          refine (H47.out _).mono ?_
          rintro e w1 ⟨rfl, rfl⟩
          go_wp2_with fail
          go_round
          case rel => exact ⟨j + 1, by omega, by simp; omega, E1.out⟩
          case measure => simp [intOf]; omega
        · go_wp2_with fail
          refine (Bh.out _).mono ?_
          rintro e w1 ⟨rfl, rfl⟩
          go_wp2_with fail
          refine (H47.out _).mono ?_
          rintro e w1 ⟨rfl, rfl⟩
          go_wp2_with fail
          go_round
          case rel => exact ⟨j + 1, by omega, by simp; omega, E1.out⟩
          case measure => simp [intOf]; omega
      · have hR' : Hid (R = false) := by
          show R = false
          rw [← HR.out]
          apply beq_eq_false_iff_ne.2
          intro hx
          have h2 := canon_bits x j (by omega) ((canon_iff x x0 x1).1 hx)
          rw [hc] at h2
          have h3 := HB.out
          rw [h2] at hcb
          exact hcb h3
        have hne : (c != b) = true := by cases c <;> cases b <;> simp_all
        clear h0 hj B HZ e1 hc Bm hcb HB HR
        cases c
        · cases b
          · simp at hne
          · clear hne
            go_wp2_with fail
            refine (Bh.out _).mono ?_
            rintro e w1 ⟨rfl, rfl⟩
            go_wp2_with fail
            refine (H47.out _).mono ?_
            rintro e w1 ⟨rfl, rfl⟩
            go_wp2_with fail
            go_ret
            exact ⟨by rw [hR'.out]; rfl, rfl⟩
        · cases b
          · clear hne
            go_wp2_with fail
            refine (Bh.out _).mono ?_
            rintro e w1 ⟨rfl, rfl⟩
            go_wp2_with fail
            refine (H47.out _).mono ?_
            rintro e w1 ⟨rfl, rfl⟩
            go_wp2_with fail
            go_ret
            exact ⟨by rw [hR'.out]; rfl, rfl⟩
          · simp at hne
end Go.Proofs.YtnjoiknfaibheaaDoor
