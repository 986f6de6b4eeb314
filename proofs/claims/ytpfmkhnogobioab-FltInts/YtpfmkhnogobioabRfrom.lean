/- The document's answer for flt.FromInt, by rounding the size: it says what the plain function says. -/
import Derived.Test.YtpfmkhnogobioabRint
namespace Go.Proofs.Ytpfmkhnogobioab
open Go.ChangeShapes Go.WideShapes Go.ChangeAt Go.RowKit
open FltM
set_option linter.unusedSimpArgs false
set_option linter.unusedVariables false

theorem and_low11 (x : Int) (h0 : 0 ≤ x) (h1 : x < 18446744073709551616) : bits .and .u64 x 2047 = x % 2048 := by
  rw [u64_and _ _ (by omega) (by omega) (by omega) (by omega)]
  rw [show (2047 : Int).toNat = 2047 from rfl, nat_mask11]; omega
theorem or_sign0 (y : Int) (h0 : 0 ≤ y) (h1 : y < 9223372036854775808) : bits .or .u64 0 y = y := by
  rw [u64_or _ _ (by omega) (by omega) (by omega) (by omega), show (0 : Int).toNat = 0 from rfl, Nat.zero_or]; omega
theorem or_sign1 (y : Int) (h0 : 0 ≤ y) (h1 : y < 9223372036854775808) : bits .or .u64 9223372036854775808 y = 9223372036854775808 + y := by
  rw [u64_or _ _ (by omega) (by omega) (by omega) (by omega), show (9223372036854775808 : Int).toNat = 9223372036854775808 from rfl]
  rw [nat_join 63 9223372036854775808 y.toNat (by decide +kernel) (by rw [show (2 : Nat) ^ 63 = 9223372036854775808 from rfl]; omega)]
  omega
theorem wrap_u {x : Int} (h0 : 0 ≤ x) (h1 : x < 18446744073709551616) : IntKind.u64.wrap x = x := by rw [IntKind.wrap_u64]; omega

set_option maxHeartbeats 400000 in
theorem rfrom_pos_up1 (n L q r : Int) (h0 : 0 < n) (h1 : n < 9223372036854775808) (l0 : 0 ≤ L) (l1 : L ≤ 63)
    (hlt : Hid (∀ k : Int, L < k → k ≤ 63 → n / 2 ^ k.toNat = 0)) (heq : n / 2 ^ L.toNat = 1) (hq : n * 2 ^ (63 - L).toNat = q) (q0 : 9223372036854775808 ≤ q) (q1 : q < 18446744073709551616)
    (hlow : 1024 < q % 2048) (hr : 0 + (1022 + L) * 4503599627370496 + (q / 2048 + 1) = r) (w : World) :
    Calls Try.prog 19 #[.int .i64 n] w fun e w' => e = .returned (.int .u64 r) ∧ w' = w := by
  have hand := and_low11 q (by omega) q1
  have wq : IntKind.u64.wrap q = q := wrap_u (by omega) q1
  have bn : (n == 0) = false := beq_eq_false_iff_ne.2 (by omega)
  have ho := or_sign0 ((1023 + L) * 4503599627370496) (by omega) (by omega)
  have hres : IntKind.u64.wrap ((1023 + L) * 4503599627370496 + (q / 2048 + 1 - 4503599627370496)) = r := by rw [IntKind.wrap_u64]; omega
  clear hr
  go_enter Try.func19, Try.ntmps19
  go_wp2
  go_loop [5] (fun hi => ∃ k : Int, hi = .int .i64 k ∧ L ≤ k ∧ k ≤ 63) (fun hi => (intOf hi).toNat)
  case atStart => exact ⟨63, rfl, by omega, by omega⟩
  case round =>
    obtain ⟨k, rfl, hk1, hk2⟩ := hrel
    by_cases c : L < k
    · have hz := hlt.out k c hk2
      go_wp2
      go_round
      case rel => exact ⟨k - 1, rfl, by omega, by omega⟩
      case measure => simp [intOf]; omega
    · have e : k = L := by omega
      subst e
      clear c hk1 hk2
      go_wp2
      go_ret
      exact ⟨ret_int rfl, rfl⟩

set_option maxHeartbeats 400000 in
theorem rfrom_pos_up2 (n L q r : Int) (h0 : 0 < n) (h1 : n < 9223372036854775808) (l0 : 0 ≤ L) (l1 : L ≤ 63)
    (hlt : Hid (∀ k : Int, L < k → k ≤ 63 → n / 2 ^ k.toNat = 0)) (heq : n / 2 ^ L.toNat = 1) (hq : n * 2 ^ (63 - L).toNat = q) (q0 : 9223372036854775808 ≤ q) (q1 : q < 18446744073709551616)
    (hlow : q % 2048 = 1024) (hodd : q / 2048 % 2 = 1) (hr : 0 + (1022 + L) * 4503599627370496 + (q / 2048 + 1) = r) (w : World) :
    Calls Try.prog 19 #[.int .i64 n] w fun e w' => e = .returned (.int .u64 r) ∧ w' = w := by
  have hand := and_low11 q (by omega) q1
  have wq : IntKind.u64.wrap q = q := wrap_u (by omega) q1
  have bn : (n == 0) = false := beq_eq_false_iff_ne.2 (by omega)
  have ho := or_sign0 ((1023 + L) * 4503599627370496) (by omega) (by omega)
  have hres : IntKind.u64.wrap ((1023 + L) * 4503599627370496 + (q / 2048 + 1 - 4503599627370496)) = r := by rw [IntKind.wrap_u64]; omega
  clear hr
  go_enter Try.func19, Try.ntmps19
  go_wp2
  go_loop [5] (fun hi => ∃ k : Int, hi = .int .i64 k ∧ L ≤ k ∧ k ≤ 63) (fun hi => (intOf hi).toNat)
  case atStart => exact ⟨63, rfl, by omega, by omega⟩
  case round =>
    obtain ⟨k, rfl, hk1, hk2⟩ := hrel
    by_cases c : L < k
    · have hz := hlt.out k c hk2
      go_wp2
      go_round
      case rel => exact ⟨k - 1, rfl, by omega, by omega⟩
      case measure => simp [intOf]; omega
    · have e : k = L := by omega
      subst e
      clear c hk1 hk2
      go_wp2
      go_ret
      exact ⟨ret_int rfl, rfl⟩

set_option maxHeartbeats 400000 in
theorem rfrom_pos_dn1 (n L q r : Int) (h0 : 0 < n) (h1 : n < 9223372036854775808) (l0 : 0 ≤ L) (l1 : L ≤ 63)
    (hlt : Hid (∀ k : Int, L < k → k ≤ 63 → n / 2 ^ k.toNat = 0)) (heq : n / 2 ^ L.toNat = 1) (hq : n * 2 ^ (63 - L).toNat = q) (q0 : 9223372036854775808 ≤ q) (q1 : q < 18446744073709551616)
    (hlow : q % 2048 < 1024) (hr : 0 + (1022 + L) * 4503599627370496 + (q / 2048) = r) (w : World) :
    Calls Try.prog 19 #[.int .i64 n] w fun e w' => e = .returned (.int .u64 r) ∧ w' = w := by
  have hand := and_low11 q (by omega) q1
  have wq : IntKind.u64.wrap q = q := wrap_u (by omega) q1
  have bn : (n == 0) = false := beq_eq_false_iff_ne.2 (by omega)
  have ho := or_sign0 ((1023 + L) * 4503599627370496) (by omega) (by omega)
  have hres : IntKind.u64.wrap ((1023 + L) * 4503599627370496 + (q / 2048 - 4503599627370496)) = r := by rw [IntKind.wrap_u64]; omega
  have b1 : (q % 2048 == 1024) = false := beq_eq_false_iff_ne.2 (by omega)
  clear hr
  go_enter Try.func19, Try.ntmps19
  go_wp2
  go_loop [5] (fun hi => ∃ k : Int, hi = .int .i64 k ∧ L ≤ k ∧ k ≤ 63) (fun hi => (intOf hi).toNat)
  case atStart => exact ⟨63, rfl, by omega, by omega⟩
  case round =>
    obtain ⟨k, rfl, hk1, hk2⟩ := hrel
    by_cases c : L < k
    · have hz := hlt.out k c hk2
      go_wp2
      go_round
      case rel => exact ⟨k - 1, rfl, by omega, by omega⟩
      case measure => simp [intOf]; omega
    · have e : k = L := by omega
      subst e
      clear c hk1 hk2
      go_wp2
      go_ret
      exact ⟨ret_int rfl, rfl⟩

set_option maxHeartbeats 400000 in
theorem rfrom_pos_dn2 (n L q r : Int) (h0 : 0 < n) (h1 : n < 9223372036854775808) (l0 : 0 ≤ L) (l1 : L ≤ 63)
    (hlt : Hid (∀ k : Int, L < k → k ≤ 63 → n / 2 ^ k.toNat = 0)) (heq : n / 2 ^ L.toNat = 1) (hq : n * 2 ^ (63 - L).toNat = q) (q0 : 9223372036854775808 ≤ q) (q1 : q < 18446744073709551616)
    (hlow : q % 2048 = 1024) (hodd : q / 2048 % 2 = 0) (hr : 0 + (1022 + L) * 4503599627370496 + (q / 2048) = r) (w : World) :
    Calls Try.prog 19 #[.int .i64 n] w fun e w' => e = .returned (.int .u64 r) ∧ w' = w := by
  have hand := and_low11 q (by omega) q1
  have wq : IntKind.u64.wrap q = q := wrap_u (by omega) q1
  have bn : (n == 0) = false := beq_eq_false_iff_ne.2 (by omega)
  have ho := or_sign0 ((1023 + L) * 4503599627370496) (by omega) (by omega)
  have hres : IntKind.u64.wrap ((1023 + L) * 4503599627370496 + (q / 2048 - 4503599627370496)) = r := by rw [IntKind.wrap_u64]; omega
  clear hr
  go_enter Try.func19, Try.ntmps19
  go_wp2
  go_loop [5] (fun hi => ∃ k : Int, hi = .int .i64 k ∧ L ≤ k ∧ k ≤ 63) (fun hi => (intOf hi).toNat)
  case atStart => exact ⟨63, rfl, by omega, by omega⟩
  case round =>
    obtain ⟨k, rfl, hk1, hk2⟩ := hrel
    by_cases c : L < k
    · have hz := hlt.out k c hk2
      go_wp2
      go_round
      case rel => exact ⟨k - 1, rfl, by omega, by omega⟩
      case measure => simp [intOf]; omega
    · have e : k = L := by omega
      subst e
      clear c hk1 hk2
      go_wp2
      go_ret
      exact ⟨ret_int rfl, rfl⟩

set_option maxHeartbeats 400000 in
theorem rfrom_neg_up1 (n m L q r : Int) (h0 : n < 0) (h1 : -9223372036854775808 ≤ n) (hm : m = -n) (l0 : 0 ≤ L) (l1 : L ≤ 63)
    (hlt : Hid (∀ k : Int, L < k → k ≤ 63 → m / 2 ^ k.toNat = 0)) (heq : m / 2 ^ L.toNat = 1) (hq : m * 2 ^ (63 - L).toNat = q) (q0 : 9223372036854775808 ≤ q) (q1 : q < 18446744073709551616)
    (hlow : 1024 < q % 2048) (hr : 9223372036854775808 + (1022 + L) * 4503599627370496 + (q / 2048 + 1) = r) (w : World) :
    Calls Try.prog 19 #[.int .i64 n] w fun e w' => e = .returned (.int .u64 r) ∧ w' = w := by
  have hand := and_low11 q (by omega) q1
  have wq : IntKind.u64.wrap q = q := wrap_u (by omega) q1
  have bn : (n == 0) = false := beq_eq_false_iff_ne.2 (by omega)
  have ho := or_sign1 ((1023 + L) * 4503599627370496) (by omega) (by omega)
  have hres : IntKind.u64.wrap (9223372036854775808 + (1023 + L) * 4503599627370496 + (q / 2048 + 1 - 4503599627370496)) = r := by rw [IntKind.wrap_u64]; omega
  have hw1 : IntKind.u64.wrap n = n + 18446744073709551616 := by rw [IntKind.wrap_u64]; omega
  have hw2 : IntKind.u64.wrap (-(n + 18446744073709551616)) = m := by rw [IntKind.wrap_u64]; omega
  clear hr hm
  go_enter Try.func19, Try.ntmps19
  go_wp2
  go_loop [5] (fun hi => ∃ k : Int, hi = .int .i64 k ∧ L ≤ k ∧ k ≤ 63) (fun hi => (intOf hi).toNat)
  case atStart => exact ⟨63, rfl, by omega, by omega⟩
  case round =>
    obtain ⟨k, rfl, hk1, hk2⟩ := hrel
    by_cases c : L < k
    · have hz := hlt.out k c hk2
      go_wp2
      go_round
      case rel => exact ⟨k - 1, rfl, by omega, by omega⟩
      case measure => simp [intOf]; omega
    · have e : k = L := by omega
      subst e
      clear c hk1 hk2
      go_wp2
      go_ret
      exact ⟨ret_int rfl, rfl⟩

set_option maxHeartbeats 400000 in
theorem rfrom_neg_up2 (n m L q r : Int) (h0 : n < 0) (h1 : -9223372036854775808 ≤ n) (hm : m = -n) (l0 : 0 ≤ L) (l1 : L ≤ 63)
    (hlt : Hid (∀ k : Int, L < k → k ≤ 63 → m / 2 ^ k.toNat = 0)) (heq : m / 2 ^ L.toNat = 1) (hq : m * 2 ^ (63 - L).toNat = q) (q0 : 9223372036854775808 ≤ q) (q1 : q < 18446744073709551616)
    (hlow : q % 2048 = 1024) (hodd : q / 2048 % 2 = 1) (hr : 9223372036854775808 + (1022 + L) * 4503599627370496 + (q / 2048 + 1) = r) (w : World) :
    Calls Try.prog 19 #[.int .i64 n] w fun e w' => e = .returned (.int .u64 r) ∧ w' = w := by
  have hand := and_low11 q (by omega) q1
  have wq : IntKind.u64.wrap q = q := wrap_u (by omega) q1
  have bn : (n == 0) = false := beq_eq_false_iff_ne.2 (by omega)
  have ho := or_sign1 ((1023 + L) * 4503599627370496) (by omega) (by omega)
  have hres : IntKind.u64.wrap (9223372036854775808 + (1023 + L) * 4503599627370496 + (q / 2048 + 1 - 4503599627370496)) = r := by rw [IntKind.wrap_u64]; omega
  have hw1 : IntKind.u64.wrap n = n + 18446744073709551616 := by rw [IntKind.wrap_u64]; omega
  have hw2 : IntKind.u64.wrap (-(n + 18446744073709551616)) = m := by rw [IntKind.wrap_u64]; omega
  clear hr hm
  go_enter Try.func19, Try.ntmps19
  go_wp2
  go_loop [5] (fun hi => ∃ k : Int, hi = .int .i64 k ∧ L ≤ k ∧ k ≤ 63) (fun hi => (intOf hi).toNat)
  case atStart => exact ⟨63, rfl, by omega, by omega⟩
  case round =>
    obtain ⟨k, rfl, hk1, hk2⟩ := hrel
    by_cases c : L < k
    · have hz := hlt.out k c hk2
      go_wp2
      go_round
      case rel => exact ⟨k - 1, rfl, by omega, by omega⟩
      case measure => simp [intOf]; omega
    · have e : k = L := by omega
      subst e
      clear c hk1 hk2
      go_wp2
      go_ret
      exact ⟨ret_int rfl, rfl⟩

set_option maxHeartbeats 400000 in
theorem rfrom_neg_dn1 (n m L q r : Int) (h0 : n < 0) (h1 : -9223372036854775808 ≤ n) (hm : m = -n) (l0 : 0 ≤ L) (l1 : L ≤ 63)
    (hlt : Hid (∀ k : Int, L < k → k ≤ 63 → m / 2 ^ k.toNat = 0)) (heq : m / 2 ^ L.toNat = 1) (hq : m * 2 ^ (63 - L).toNat = q) (q0 : 9223372036854775808 ≤ q) (q1 : q < 18446744073709551616)
    (hlow : q % 2048 < 1024) (hr : 9223372036854775808 + (1022 + L) * 4503599627370496 + (q / 2048) = r) (w : World) :
    Calls Try.prog 19 #[.int .i64 n] w fun e w' => e = .returned (.int .u64 r) ∧ w' = w := by
  have hand := and_low11 q (by omega) q1
  have wq : IntKind.u64.wrap q = q := wrap_u (by omega) q1
  have bn : (n == 0) = false := beq_eq_false_iff_ne.2 (by omega)
  have ho := or_sign1 ((1023 + L) * 4503599627370496) (by omega) (by omega)
  have hres : IntKind.u64.wrap (9223372036854775808 + (1023 + L) * 4503599627370496 + (q / 2048 - 4503599627370496)) = r := by rw [IntKind.wrap_u64]; omega
  have hw1 : IntKind.u64.wrap n = n + 18446744073709551616 := by rw [IntKind.wrap_u64]; omega
  have hw2 : IntKind.u64.wrap (-(n + 18446744073709551616)) = m := by rw [IntKind.wrap_u64]; omega
  have b1 : (q % 2048 == 1024) = false := beq_eq_false_iff_ne.2 (by omega)
  clear hr hm
  go_enter Try.func19, Try.ntmps19
  go_wp2
  go_loop [5] (fun hi => ∃ k : Int, hi = .int .i64 k ∧ L ≤ k ∧ k ≤ 63) (fun hi => (intOf hi).toNat)
  case atStart => exact ⟨63, rfl, by omega, by omega⟩
  case round =>
    obtain ⟨k, rfl, hk1, hk2⟩ := hrel
    by_cases c : L < k
    · have hz := hlt.out k c hk2
      go_wp2
      go_round
      case rel => exact ⟨k - 1, rfl, by omega, by omega⟩
      case measure => simp [intOf]; omega
    · have e : k = L := by omega
      subst e
      clear c hk1 hk2
      go_wp2
      go_ret
      exact ⟨ret_int rfl, rfl⟩

set_option maxHeartbeats 400000 in
theorem rfrom_neg_dn2 (n m L q r : Int) (h0 : n < 0) (h1 : -9223372036854775808 ≤ n) (hm : m = -n) (l0 : 0 ≤ L) (l1 : L ≤ 63)
    (hlt : Hid (∀ k : Int, L < k → k ≤ 63 → m / 2 ^ k.toNat = 0)) (heq : m / 2 ^ L.toNat = 1) (hq : m * 2 ^ (63 - L).toNat = q) (q0 : 9223372036854775808 ≤ q) (q1 : q < 18446744073709551616)
    (hlow : q % 2048 = 1024) (hodd : q / 2048 % 2 = 0) (hr : 9223372036854775808 + (1022 + L) * 4503599627370496 + (q / 2048) = r) (w : World) :
    Calls Try.prog 19 #[.int .i64 n] w fun e w' => e = .returned (.int .u64 r) ∧ w' = w := by
  have hand := and_low11 q (by omega) q1
  have wq : IntKind.u64.wrap q = q := wrap_u (by omega) q1
  have bn : (n == 0) = false := beq_eq_false_iff_ne.2 (by omega)
  have ho := or_sign1 ((1023 + L) * 4503599627370496) (by omega) (by omega)
  have hres : IntKind.u64.wrap (9223372036854775808 + (1023 + L) * 4503599627370496 + (q / 2048 - 4503599627370496)) = r := by rw [IntKind.wrap_u64]; omega
  have hw1 : IntKind.u64.wrap n = n + 18446744073709551616 := by rw [IntKind.wrap_u64]; omega
  have hw2 : IntKind.u64.wrap (-(n + 18446744073709551616)) = m := by rw [IntKind.wrap_u64]; omega
  clear hr hm
  go_enter Try.func19, Try.ntmps19
  go_wp2
  go_loop [5] (fun hi => ∃ k : Int, hi = .int .i64 k ∧ L ≤ k ∧ k ≤ 63) (fun hi => (intOf hi).toNat)
  case atStart => exact ⟨63, rfl, by omega, by omega⟩
  case round =>
    obtain ⟨k, rfl, hk1, hk2⟩ := hrel
    by_cases c : L < k
    · have hz := hlt.out k c hk2
      go_wp2
      go_round
      case rel => exact ⟨k - 1, rfl, by omega, by omega⟩
      case measure => simp [intOf]; omega
    · have e : k = L := by omega
      subst e
      clear c hk1 hk2
      go_wp2
      go_ret
      exact ⟨ret_int rfl, rfl⟩

theorem div_log {m : Nat} (h : m ≠ 0) : m / 2 ^ m.log2 = 1 := by
  have h1 := Nat.log2_self_le h
  have h2 : m < 2 ^ (m.log2 + 1) := Nat.lt_log2_self
  rw [Nat.pow_succ] at h2
  have hp : 0 < 2 ^ m.log2 := Nat.two_pow_pos _
  apply Nat.div_eq_of_lt_le <;> omega
theorem div_high {m k : Nat} (h : m.log2 < k) : m / 2 ^ k = 0 := by
  apply Nat.div_eq_of_lt
  exact Nat.lt_of_lt_of_le Nat.lt_log2_self (Nat.pow_le_pow_right (by omega) h)

set_option maxHeartbeats 400000 in
theorem rfrom_any (n : Int) (h0 : -9223372036854775808 ≤ n) (h1 : n < 9223372036854775808) (w : World) :
    Calls Try.prog 19 #[.int .i64 n] w fun e w' => e = .returned (.int .u64 (fromI n : Nat)) ∧ w' = w := by
  by_cases hz : n = 0
  · subst hz
    have e : ((fromI 0 : Nat) : Int) = 0 := by decide +kernel
    rw [e]
    clear e h0 h1
    go_enter Try.func19, Try.ntmps19
    go_wp2
    go_ret
    exact ⟨rfl, rfl⟩
  obtain ⟨m, hm⟩ : ∃ m : Nat, n.natAbs = m := ⟨_, rfl⟩
  have hm0 : m ≠ 0 := by omega
  obtain ⟨L, hL⟩ : ∃ L : Nat, m.log2 = L := ⟨_, rfl⟩
  have hL63 : L ≤ 63 := by
    have : m.log2 < 64 := (Nat.log2_lt hm0).2 (by rw [show (2 : Nat) ^ 64 = 18446744073709551616 from rfl]; omega)
    omega
  have hf := fromI_bits hm hm0 hL hL63
  have hlt : ∀ k : Int, (L : Int) < k → k ≤ 63 → (m : Int) / 2 ^ k.toNat = 0 := by
    intro k k1 _
    have := div_high (m := m) (k := k.toNat) (by omega)
    have e : (m : Int) / 2 ^ k.toNat = ((m / 2 ^ k.toNat : Nat) : Int) := by rw [Int.natCast_ediv, Int.natCast_pow]; rfl
    rw [e, this]; rfl
  have heq : (m : Int) / 2 ^ (L : Int).toNat = 1 := by
    have := div_log hm0
    rw [hL] at this
    have e : (m : Int) / 2 ^ (L : Int).toNat = ((m / 2 ^ L : Nat) : Int) := by rw [Int.toNat_natCast, Int.natCast_ediv, Int.natCast_pow]; rfl
    rw [e, this]; rfl
  obtain ⟨q, hq⟩ : ∃ q : Nat, m * 2 ^ (63 - L) = q := ⟨_, rfl⟩
  rw [hq] at hf
  have hqi : (m : Int) * 2 ^ (63 - (L : Int)).toNat = (q : Int) := by
    rw [← hq, show (63 - (L : Int)).toNat = 63 - L by omega, Int.natCast_mul, Int.natCast_pow]; rfl
  have hq0 : 9223372036854775808 ≤ q := by
    have h2 : 2 ^ L * 2 ^ (63 - L) ≤ m * 2 ^ (63 - L) := Nat.mul_le_mul_right _ (by rw [← hL]; exact Nat.log2_self_le hm0)
    rw [← Nat.pow_add, show L + (63 - L) = 63 by omega, hq] at h2
    exact h2
  have hq1 : q < 18446744073709551616 := by
    have h2 : m * 2 ^ (63 - L) < 2 ^ (L + 1) * 2 ^ (63 - L) := Nat.mul_lt_mul_of_pos_right (by rw [← hL]; exact Nat.lt_log2_self) (Nat.two_pow_pos _)
    rw [← Nat.pow_add, show L + 1 + (63 - L) = 64 by omega, hq] at h2
    exact h2
  have wd : ∀ (b : Bool) (r : Nat), Ieee.double.word b r = if b then 9223372036854775808 + r else r := by
    intro b r; unfold Ieee.Format.word; rw [sw_eq]
  by_cases hs : n < 0
  · rw [decide_eq_true hs, wd, if_pos rfl] at hf
    by_cases u1 : 1024 < q % 2048
    · rw [rne_up (Or.inl u1)] at hf
      exact rfrom_neg_up1 n m L q _ hs h0 (by omega) (by omega) (by omega) hlt heq hqi (by omega) (by omega) (by omega) (by rw [hf]; omega) w
    · by_cases u2 : q % 2048 = 1024 ∧ q / 2048 % 2 = 1
      · rw [rne_up (Or.inr u2)] at hf
        exact rfrom_neg_up2 n m L q _ hs h0 (by omega) (by omega) (by omega) hlt heq hqi (by omega) (by omega) (by omega) (by omega) (by rw [hf]; omega) w
      · rw [rne_down (by omega)] at hf
        by_cases u3 : q % 2048 = 1024
        · exact rfrom_neg_dn2 n m L q _ hs h0 (by omega) (by omega) (by omega) hlt heq hqi (by omega) (by omega) (by omega) (by omega) (by rw [hf]; omega) w
        · exact rfrom_neg_dn1 n m L q _ hs h0 (by omega) (by omega) (by omega) hlt heq hqi (by omega) (by omega) (by omega) (by rw [hf]; omega) w
  · rw [decide_eq_false hs, wd, if_neg (by decide)] at hf
    have hmn : (m : Int) = n := by omega
    rw [hmn] at heq hqi hlt
    by_cases u1 : 1024 < q % 2048
    · rw [rne_up (Or.inl u1)] at hf
      exact rfrom_pos_up1 n L q _ (by omega) h1 (by omega) (by omega) hlt heq hqi (by omega) (by omega) (by omega) (by rw [hf]; omega) w
    · by_cases u2 : q % 2048 = 1024 ∧ q / 2048 % 2 = 1
      · rw [rne_up (Or.inr u2)] at hf
        exact rfrom_pos_up2 n L q _ (by omega) h1 (by omega) (by omega) hlt heq hqi (by omega) (by omega) (by omega) (by omega) (by rw [hf]; omega) w
      · rw [rne_down (by omega)] at hf
        by_cases u3 : q % 2048 = 1024
        · exact rfrom_pos_dn2 n L q _ (by omega) h1 (by omega) (by omega) hlt heq hqi (by omega) (by omega) (by omega) (by omega) (by rw [hf]; omega) w
        · exact rfrom_pos_dn1 n L q _ (by omega) h1 (by omega) (by omega) hlt heq hqi (by omega) (by omega) (by omega) (by rw [hf]; omega) w
end Go.Proofs.Ytpfmkhnogobioab
