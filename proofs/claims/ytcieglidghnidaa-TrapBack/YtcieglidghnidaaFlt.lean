/- The contracts of flt's functions and of the document's answer for them: each returns what a plain function of bits says. -/
import Derived.Test.YtcieglidghnidaaRows
import Derived.Test.YtcieglidghnidaaMath
import Derived.WalkKit
import Derived.ProofKit
import Derived.OpenShut
import Derived.WalkLawsBesides
import Derived.Deep.Light
import Derived.Laws.Externs
import Derived.Deep.RegionWith
import Derived.Laws.FloatArith
import Derived.Deep.Draws
namespace Go.Proofs.Ytcieglidghnidaa
open Go.ChangeShapes Go.WideShapes Go.ChangeAt Go.RowKit
open FltM

/-! ### the bits' fields, as the walk writes them -/
theorem and_2047 (x : Int) (h0 : 0 ≤ x) (h1 : x < 18446744073709551616) : bits .and .u64 (x / 4503599627370496) 2047 = x / 4503599627370496 % 2048 := by
  rw [u64_and _ _ (by omega) (by omega) (by omega) (by omega)]
  rw [show (2047 : Int).toNat = 2047 from rfl, nat_mask11]; omega
theorem and_rest (x : Int) (h0 : 0 ≤ x) (h1 : x < 18446744073709551616) : bits .and .u64 x 4503599627370495 = x % 4503599627370496 := by
  rw [u64_and _ _ (by omega) (by omega) (by omega) (by omega)]
  rw [show (4503599627370495 : Int).toNat = 2 ^ 52 - 1 from rfl, Nat.and_two_pow_sub_one_eq_mod]; omega


theorem ret_int {k : IntKind} {a b : Int} (h : a = b) : Ending.returned (.int k a) = .returned (.int k b) := by rw [h]
theorem ret_bool {a b : Bool} (h : a = b) : Ending.returned (.bool a) = .returned (.bool b) := by rw [h]

theorem frombits_run (a : Int) (w : World) : (callFunc 27 #[.int .u64 a]).run Try.prog w = .ok (.value (.float .f64 a.toNat)) w := by
  rw [run_callFunc_extern Try.func27 (by kernel_rfl) (by kernel_rfl) (by kernel_rfl) (e := Extern.MathFloatBits.float64frombits) (by kernel_rfl)]; rfl
theorem bits_run (a : Nat) (w : World) : (callFunc 29 #[.float .f64 a]).run Try.prog w = .ok (.value (.int .u64 a)) w := by
  rw [run_callFunc_extern Try.func29 (by kernel_rfl) (by kernel_rfl) (by kernel_rfl) (e := Extern.MathFloatBits.float64bits) (by kernel_rfl)]; rfl

set_option maxHeartbeats 400000 in
theorem class_any (x : Int) (h0 : 0 ≤ x) (h1 : x < 18446744073709551616) (w : World) :
    Calls Try.prog 26 #[.int .u64 x] w fun e w' => e = .returned (.int .i64 (cls x.toNat)) ∧ w' = w := by
  have a1 := and_2047 x h0 h1
  have a2 := and_rest x h0 h1
  go_enter Try.func26, Try.ntmps26
  go_wp2
  all_goals
    go_ret
    go_light
    clear a1 a2
    refine ⟨ret_int ?_, rfl⟩
    unfold cls rg
    simp_all
    omega

set_option maxHeartbeats 400000 in
theorem rclass_any (x : Int) (h0 : 0 ≤ x) (h1 : x < 18446744073709551616) (w : World) :
    Calls Try.prog 31 #[.int .u64 x] w fun e w' => e = .returned (.int .i64 (cls x.toNat)) ∧ w' = w := by
  go_enter Try.func31, Try.ntmps31
  go_wp2
  all_goals
    go_ret
    go_light
    refine ⟨ret_int ?_, rfl⟩
    unfold cls rg
    simp only [IntKind.wrap_u64, beq_eq_false_iff_ne, ne_eq, beq_iff_eq] at *
    repeat' split
    all_goals omega

theorem key_eq (x : Int) (h0 : 0 ≤ x) (h1 : x < 18446744073709551616) : key x.toNat = if x / 9223372036854775808 = 1 then -(x % 9223372036854775808) else x % 9223372036854775808 := by
  unfold key sz sg rg
  by_cases c : x / 9223372036854775808 = 1
  · have : (x.toNat / 9223372036854775808 % 2 == 1) = true := by simp; omega
    rw [this, if_pos c]; simp only [if_true]; omega
  · have : (x.toNat / 9223372036854775808 % 2 == 1) = false := by simp; omega
    rw [this, if_neg c]; simp; omega

set_option maxHeartbeats 400000 in
theorem rkey_any (x : Int) (h0 : 0 ≤ x) (h1 : x < 18446744073709551616) (w : World) :
    Calls Try.prog 34 #[.int .u64 x] w fun e w' => e = .returned (.int .i64 (key x.toNat)) ∧ w' = w := by
  go_enter Try.func34, Try.ntmps34
  go_wp2
  all_goals
    go_ret
    go_light
    refine ⟨ret_int ?_, rfl⟩
    rw [key_eq x h0 h1]
    simp only [IntKind.wrap_u64, beq_eq_false_iff_ne, ne_eq, beq_iff_eq, wrap64] at *
    first | rw [if_pos (by assumption)] | rw [if_neg (by assumption)]
    omega

theorem cls_bool (x : Nat) : (cls x == 4) = decide (9218868437227405312 < rg x) := by
  rw [Bool.eq_iff_iff, beq_iff_eq, decide_eq_true_iff]; exact cls_nan x

theorem cls_yes {x : Nat} (h : 9218868437227405312 < rg x) : (cls x == 4) = true := by rw [cls_bool]; exact decide_eq_true h
theorem cls_no {x : Nat} (h : ¬ 9218868437227405312 < rg x) : (cls x == 4) = false := by rw [cls_bool]; exact decide_eq_false h

set_option maxHeartbeats 400000 in
theorem rcompare_any (a b : Int) (ha0 : 0 ≤ a) (ha1 : a < 18446744073709551616) (hb0 : 0 ≤ b) (hb1 : b < 18446744073709551616) (w : World) :
    Calls Try.prog 32 #[.int .u64 a, .int .u64 b] w fun e w' => e = .returned (.int .i64 (cmpF a.toNat b.toNat)) ∧ w' = w := by
  by_cases n1 : 9218868437227405312 < rg a.toNat
  · have q1 := cls_yes n1
    have hc0 : cmpF a.toNat b.toNat = 2 := by unfold cmpF; rw [if_pos (Or.inl n1)]
    have hc : Hid (cmpF a.toNat b.toNat = 2) := hc0
    clear hc0 n1
    go_enter Try.func32, Try.ntmps32
    go_wp2_with (first | (go_at_call_of 31 (Value.int IntKind.u64 a); refine (rclass_any _ ha0 ha1 _).mono ?_; rintro e w' ⟨rfl, rfl⟩) | (go_at_call_of 31 (Value.int IntKind.u64 b); refine (rclass_any _ hb0 hb1 _).mono ?_; rintro e w' ⟨rfl, rfl⟩) | (go_at_call_of 34 (Value.int IntKind.u64 a); refine (rkey_any _ ha0 ha1 _).mono ?_; rintro e w' ⟨rfl, rfl⟩) | (go_at_call_of 34 (Value.int IntKind.u64 b); refine (rkey_any _ hb0 hb1 _).mono ?_; rintro e w' ⟨rfl, rfl⟩))
    go_ret
    exact ⟨ret_int hc.out.symm, rfl⟩
  · have q1 := cls_no n1
    by_cases n2 : 9218868437227405312 < rg b.toNat
    · have q2 := cls_yes n2
      have hc0 : cmpF a.toNat b.toNat = 2 := by unfold cmpF; rw [if_pos (Or.inr n2)]
      have hc : Hid (cmpF a.toNat b.toNat = 2) := hc0
      clear hc0 n1 n2
      go_enter Try.func32, Try.ntmps32
      go_wp2_with (first | (go_at_call_of 31 (Value.int IntKind.u64 a); refine (rclass_any _ ha0 ha1 _).mono ?_; rintro e w' ⟨rfl, rfl⟩) | (go_at_call_of 31 (Value.int IntKind.u64 b); refine (rclass_any _ hb0 hb1 _).mono ?_; rintro e w' ⟨rfl, rfl⟩) | (go_at_call_of 34 (Value.int IntKind.u64 a); refine (rkey_any _ ha0 ha1 _).mono ?_; rintro e w' ⟨rfl, rfl⟩) | (go_at_call_of 34 (Value.int IntKind.u64 b); refine (rkey_any _ hb0 hb1 _).mono ?_; rintro e w' ⟨rfl, rfl⟩))
      go_ret
      exact ⟨ret_int hc.out.symm, rfl⟩
    · have q2 := cls_no n2
      have c0 : ¬ (9218868437227405312 < rg a.toNat ∨ 9218868437227405312 < rg b.toNat) := by omega
      by_cases c1 : key a.toNat < key b.toNat
      · skip
        have hc0 : cmpF a.toNat b.toNat = -1 := by unfold cmpF; rw [if_neg c0, if_pos c1]
        have hc : Hid (cmpF a.toNat b.toNat = -1) := hc0
        clear hc0 c0 n1 n2
        go_enter Try.func32, Try.ntmps32
        go_wp2_with (first | (go_at_call_of 31 (Value.int IntKind.u64 a); refine (rclass_any _ ha0 ha1 _).mono ?_; rintro e w' ⟨rfl, rfl⟩) | (go_at_call_of 31 (Value.int IntKind.u64 b); refine (rclass_any _ hb0 hb1 _).mono ?_; rintro e w' ⟨rfl, rfl⟩) | (go_at_call_of 34 (Value.int IntKind.u64 a); refine (rkey_any _ ha0 ha1 _).mono ?_; rintro e w' ⟨rfl, rfl⟩) | (go_at_call_of 34 (Value.int IntKind.u64 b); refine (rkey_any _ hb0 hb1 _).mono ?_; rintro e w' ⟨rfl, rfl⟩))
        go_ret
        exact ⟨ret_int hc.out.symm, rfl⟩
      · by_cases c2 : key b.toNat < key a.toNat
        · skip
          have hc0 : cmpF a.toNat b.toNat = 1 := by unfold cmpF; rw [if_neg c0, if_neg c1, if_pos c2]
          have hc : Hid (cmpF a.toNat b.toNat = 1) := hc0
          clear hc0 c0 n1 n2
          go_enter Try.func32, Try.ntmps32
          go_wp2_with (first | (go_at_call_of 31 (Value.int IntKind.u64 a); refine (rclass_any _ ha0 ha1 _).mono ?_; rintro e w' ⟨rfl, rfl⟩) | (go_at_call_of 31 (Value.int IntKind.u64 b); refine (rclass_any _ hb0 hb1 _).mono ?_; rintro e w' ⟨rfl, rfl⟩) | (go_at_call_of 34 (Value.int IntKind.u64 a); refine (rkey_any _ ha0 ha1 _).mono ?_; rintro e w' ⟨rfl, rfl⟩) | (go_at_call_of 34 (Value.int IntKind.u64 b); refine (rkey_any _ hb0 hb1 _).mono ?_; rintro e w' ⟨rfl, rfl⟩))
          go_ret
          exact ⟨ret_int hc.out.symm, rfl⟩
        · skip
          have hc0 : cmpF a.toNat b.toNat = 0 := by unfold cmpF; rw [if_neg c0, if_neg c1, if_neg c2]
          have hc : Hid (cmpF a.toNat b.toNat = 0) := hc0
          clear hc0 c0 n1 n2
          go_enter Try.func32, Try.ntmps32
          go_wp2_with (first | (go_at_call_of 31 (Value.int IntKind.u64 a); refine (rclass_any _ ha0 ha1 _).mono ?_; rintro e w' ⟨rfl, rfl⟩) | (go_at_call_of 31 (Value.int IntKind.u64 b); refine (rclass_any _ hb0 hb1 _).mono ?_; rintro e w' ⟨rfl, rfl⟩) | (go_at_call_of 34 (Value.int IntKind.u64 a); refine (rkey_any _ ha0 ha1 _).mono ?_; rintro e w' ⟨rfl, rfl⟩) | (go_at_call_of 34 (Value.int IntKind.u64 b); refine (rkey_any _ hb0 hb1 _).mono ?_; rintro e w' ⟨rfl, rfl⟩))
          go_ret
          exact ⟨ret_int hc.out.symm, rfl⟩


theorem order_self {x : Nat} (h : ¬ 9218868437227405312 < rg x) : FloatKind.f64.format.order x x = some .eq := order_same h h (by omega) (by omega)

set_option maxHeartbeats 400000 in
theorem isnan_any (x : Nat) (w : World) :
    Calls Try.prog 28 #[.float .f64 x] w fun e w' => e = .returned (.bool (decide (9218868437227405312 < rg x))) ∧ w' = w := by
  by_cases h : 9218868437227405312 < rg x
  · have ho : FloatKind.f64.format.order x x = none := order_none (Or.inl h)
    rw [decide_eq_true h]
    clear h
    go_enter Try.func28, Try.ntmps28
    go_wp2
    go_ret
    exact ⟨rfl, rfl⟩
  · have ho := order_self h
    rw [decide_eq_false h]
    clear h
    go_enter Try.func28, Try.ntmps28
    go_wp2
    go_ret
    exact ⟨rfl, rfl⟩

theorem and_quiet (x : Int) (h0 : 0 ≤ x) (h1 : x < 18446744073709551616) : (bits .and .u64 x 2251799813685248 == 0) = decide (x.toNat / 2251799813685248 % 2 = 0) := by
  rw [u64_and _ _ (by omega) (by omega) (by omega) (by omega)]
  rw [show (2251799813685248 : Int).toNat = 2 ^ 51 from rfl, nat_bit, Bool.eq_iff_iff, beq_iff_eq, decide_eq_true_iff]
  rw [show (2 : Nat) ^ 51 = 2251799813685248 from rfl]
  omega

set_option maxHeartbeats 400000 in
theorem signals_any (x : Int) (h0 : 0 ≤ x) (h1 : x < 18446744073709551616) (w : World) :
    Calls Try.prog 30 #[.int .u64 x] w fun e w' => e = .returned (.bool (sigs x.toNat)) ∧ w' = w := by
  have a1 := and_quiet x h0 h1
  by_cases h : 9218868437227405312 < rg x.toNat
  · have q := cls_yes h
    have hs0 : sigs x.toNat = decide (x.toNat / 2251799813685248 % 2 = 0) := by unfold sigs; rw [decide_eq_true h]; rfl
    have hs : Hid (sigs x.toNat = decide (x.toNat / 2251799813685248 % 2 = 0)) := hs0
    clear h hs0
    go_enter Try.func30, Try.ntmps30
    go_wp2_with (go_at_call 26; refine (class_any _ h0 h1 _).mono ?_; rintro e w' ⟨rfl, rfl⟩)
    go_ret
    exact ⟨ret_bool hs.out.symm, rfl⟩
  · have q := cls_no h
    have hs0 : sigs x.toNat = false := by unfold sigs; rw [decide_eq_false h]; rfl
    have hs : Hid (sigs x.toNat = false) := hs0
    clear h hs0
    go_enter Try.func30, Try.ntmps30
    go_wp2_with (go_at_call 26; refine (class_any _ h0 h1 _).mono ?_; rintro e w' ⟨rfl, rfl⟩)
    go_ret
    exact ⟨ret_bool hs.out.symm, rfl⟩

theorem rquiet (x : Int) (h0 : 0 ≤ x) (h1 : x < 18446744073709551616) : (IntKind.u64.wrap (x * 4096) / 9223372036854775808 == 0) = decide (x.toNat / 2251799813685248 % 2 = 0) := by
  rw [IntKind.wrap_u64, Bool.eq_iff_iff, beq_iff_eq, decide_eq_true_iff]; omega

set_option maxHeartbeats 400000 in
theorem rsignals_any (x : Int) (h0 : 0 ≤ x) (h1 : x < 18446744073709551616) (w : World) :
    Calls Try.prog 33 #[.int .u64 x] w fun e w' => e = .returned (.bool (sigs x.toNat)) ∧ w' = w := by
  have a1 := rquiet x h0 h1
  by_cases h : 9218868437227405312 < rg x.toNat
  · have q := cls_yes h
    have hs0 : sigs x.toNat = decide (x.toNat / 2251799813685248 % 2 = 0) := by unfold sigs; rw [decide_eq_true h]; rfl
    have hs : Hid (sigs x.toNat = decide (x.toNat / 2251799813685248 % 2 = 0)) := hs0
    clear h hs0
    go_enter Try.func33, Try.ntmps33
    go_wp2_with (go_at_call 31; refine (rclass_any _ h0 h1 _).mono ?_; rintro e w' ⟨rfl, rfl⟩)
    go_ret
    exact ⟨ret_bool hs.out.symm, rfl⟩
  · have q := cls_no h
    have hs0 : sigs x.toNat = false := by unfold sigs; rw [decide_eq_false h]; rfl
    have hs : Hid (sigs x.toNat = false) := hs0
    clear h hs0
    go_enter Try.func33, Try.ntmps33
    go_wp2_with (go_at_call 31; refine (rclass_any _ h0 h1 _).mono ?_; rintro e w' ⟨rfl, rfl⟩)
    go_ret
    exact ⟨ret_bool hs.out.symm, rfl⟩

theorem nan_cut (t : Nat) : 9218868437227405312 < rg (t % 2 * 2 ^ 63 + 0x7ff0000000000000 + 1 + t / 2 % (2 ^ 52 - 1)) := by
  unfold rg
  simp only [Nat.reducePow, Nat.reduceSub]
  have h : t / 2 % 4503599627370495 < 4503599627370495 := Nat.mod_lt _ (by omega)
  generalize t / 2 % 4503599627370495 = m at *
  rcases Nat.mod_two_eq_zero_or_one t with c | c <;> rw [c] <;> omega

/-! ### float64's operations: a number's bits, or those of some NaN -/
theorem run_arith (op : BinOp) (hop : op = .add ∨ op = .sub ∨ op = .mul ∨ op = .quo) (t : TypeId) (x y : Nat) (w : World) :
    ∃ r n, (binOp op t (.float .f64 x) (.float .f64 y)).run Try.prog w = .ok (.float .f64 r) (w.drewN n) ∧ (floatBits op .f64 x y = some r ∨ (floatBits op .f64 x y = none ∧ 9218868437227405312 < rg r)) := by
  cases hf : floatBits op .f64 x y with
  | some r => exact ⟨r, 0, run_float_arith w op t .f64 x y r hf, Or.inl rfl⟩
  | none =>
    refine ⟨(Question.nanBits .f64 x y).cut (w.tape w.drawn (.nanBits .f64 x y)), 1, ?_, Or.inr ⟨rfl, ?_⟩⟩
    · rcases hop with rfl | rfl | rfl | rfl <;> simp only [floatBits] at hf <;> simp [binOp, Op.floatArith, hf, Question.forced] <;> rfl
    · simp only [Question.cut]
      generalize w.tape w.drawn (Question.nanBits FloatKind.f64 x y) = t
      exact nan_cut t
end Go.Proofs.Ytcieglidghnidaa
