/- flt.ToInt of any bits: what the plain functions say. -/
import Derived.Test.YtpfmkhnogobioabToI
namespace Go.Proofs.Ytpfmkhnogobioab
open Go.ChangeShapes Go.WideShapes Go.ChangeAt Go.RowKit
open FltM
set_option linter.unusedSimpArgs false
set_option linter.unusedVariables false

set_option maxHeartbeats 400000 in
theorem toint_low {x : Int} {f : Nat} (h : ¬ 9218868437227405312 < rg x.toNat) (hf : Ieee.double.write ((Ieee.double.read x.toNat).integral .zero) = f)
    (o1 : FloatKind.f64.format.order f 14114281232179134464 = some .lt) (w : World) :
    Calls Try.prog 16 #[.int .u64 x] w fun e w' => e = .returned (.tuple #[.int .i64 0, .int .i64 1]) ∧ w' = w := by
  have hfb := frombits_run
  have ht : Hid (∀ w, Calls Try.prog 26 #[.float .f64 x.toNat] w fun e w' => e = .returned (.float .f64 f) ∧ w' = w) := trunc_num h hf
  clear h hf
  go_enter Try.func16, Try.ntmps16
  go_wp2_with fail
  refine (ht.out _).mono ?_
  rintro e w' ⟨rfl, rfl⟩
  go_wp2_with fail
  go_ret2
  exact ⟨rfl, rfl⟩
set_option maxHeartbeats 400000 in
theorem toint_high {x : Int} {f : Nat} (h : ¬ 9218868437227405312 < rg x.toNat) (hf : Ieee.double.write ((Ieee.double.read x.toNat).integral .zero) = f)
    (o1 : FloatKind.f64.format.order f 14114281232179134464 = some .gt) (o2 : FloatKind.f64.format.order f 4890909195324358656 = some .gt ∨ FloatKind.f64.format.order f 4890909195324358656 = some .eq) (w : World) :
    Calls Try.prog 16 #[.int .u64 x] w fun e w' => e = .returned (.tuple #[.int .i64 0, .int .i64 1]) ∧ w' = w := by
  have hfb := frombits_run
  have ht : Hid (∀ w, Calls Try.prog 26 #[.float .f64 x.toNat] w fun e w' => e = .returned (.float .f64 f) ∧ w' = w) := trunc_num h hf
  clear h hf
  rcases o2 with o2 | o2
  all_goals
    go_enter Try.func16, Try.ntmps16
    go_wp2_with fail
    refine (ht.out _).mono ?_
    rintro e w' ⟨rfl, rfl⟩
    go_wp2_with fail
    go_ret2
    exact ⟨rfl, rfl⟩
set_option maxHeartbeats 400000 in
theorem toint_in {x n : Int} {f : Nat} (h : ¬ 9218868437227405312 < rg x.toNat) (hf : Ieee.double.write ((Ieee.double.read x.toNat).integral .zero) = f)
    (o1 : FloatKind.f64.format.order f 14114281232179134464 = some .gt ∨ FloatKind.f64.format.order f 14114281232179134464 = some .eq) (o2 : FloatKind.f64.format.order f 4890909195324358656 = some .lt)
    (hn : floatToIntVal .f64 f .i64 = some n) (w : World) :
    Calls Try.prog 16 #[.int .u64 x] w fun e w' => e = .returned (.tuple #[.int .i64 n, .int .i64 0]) ∧ w' = w := by
  have hfb := frombits_run
  have hci := fun W : World => run_convert_float_int (P := Try.prog) W 41 2 .f64 .i64 f n (by kernel_rfl) Try.underlying2 hn
  have ht : Hid (∀ w, Calls Try.prog 26 #[.float .f64 x.toNat] w fun e w' => e = .returned (.float .f64 f) ∧ w' = w) := trunc_num h hf
  clear h hf hn
  rcases o1 with o1 | o1
  all_goals
    go_enter Try.func16, Try.ntmps16
    go_wp2_with fail
    refine (ht.out _).mono ?_
    rintro e w' ⟨rfl, rfl⟩
    go_wp2_with fail
    go_ret2
    exact ⟨rfl, rfl⟩

theorem int_val {f : Nat} {n : Int} (h : (Ieee.double.read f).toInt .zero = some n) (h1 : -9223372036854775808 ≤ n) (h2 : n < 9223372036854775808) : floatToIntVal .f64 f .i64 = some n := by
  unfold floatToIntVal
  have e : FloatKind.f64.decode f = Ieee.double.read f := rfl
  have m1 : IntKind.min .i64 = -9223372036854775808 := by decide
  have m2 : IntKind.max .i64 = 9223372036854775807 := by decide
  rw [e, h]
  simp only [m1, m2]
  rw [if_pos ⟨h1, by omega⟩]

theorem toint_any (x : Int) (w : World) :
    Calls Try.prog 16 #[.int .u64 x] w fun e w' => e = .returned (.tuple #[.int .i64 (toI x.toNat), .int .i64 (toE x.toNat)]) ∧ ∃ n, w' = w.drewN n := by
  by_cases hn : 9218868437227405312 < rg x.toNat
  · have e1 : toI x.toNat = 0 := by unfold toI; rw [if_neg (fun k => by omega)]
    have e2 : toE x.toNat = 1 := by unfold toE; rw [if_neg (fun k => by omega)]
    rw [e1, e2]; exact toint_nan x hn w
  · by_cases hi : rg x.toNat = 9218868437227405312
    · have e1 : toI x.toNat = 0 := by unfold toI; rw [if_neg (fun k => by omega)]
      have e2 : toE x.toNat = 1 := by unfold toE; rw [if_neg (fun k => by omega)]
      rw [e1, e2]
      have hf : Ieee.double.write ((Ieee.double.read x.toNat).integral .zero) = Ieee.double.word (sg x.toNat) 9218868437227405312 := by
        rw [read_inf hi]; simp only [Ieee.Datum.integral, Ieee.Format.write, inf_eq]
      have kf := key_word (sg x.toNat) (t := 9218868437227405312) (by omega)
      have nf := order_word (sg x.toNat) (t := 9218868437227405312) (by omega)
      cases hs : sg x.toNat
      · rw [hs] at hf kf nf
        have kf' : key (Ieee.double.word false 9218868437227405312) = 9218868437227405312 := kf
        exact (toint_high hn hf (order_gt nf rg_m63 (by rw [kf', key_m63]; omega)) (Or.inl (order_gt nf rg_p63 (by rw [kf', key_p63]; omega))) w).mono fun e w' ⟨he, hw⟩ => ⟨he, 0, hw⟩
      · rw [hs] at hf kf nf
        have kf' : key (Ieee.double.word true 9218868437227405312) = -9218868437227405312 := kf
        exact (toint_low hn hf (order_lt nf rg_m63 (by rw [kf', key_m63]; omega)) w).mono fun e w' ⟨he, hw⟩ => ⟨he, 0, hw⟩
    · have hr : rg x.toNat < 9218868437227405312 := by omega
      obtain ⟨t, ht, hv, hwr⟩ := trunc_write (sg x.toNat) hr
      have hf : Ieee.double.write ((Ieee.double.read x.toNat).integral .zero) = Ieee.double.word (sg x.toNat) t := by
        rw [read_num hr, integral_num]; exact hwr
      have kf := key_word (sg x.toNat) (t := t) (by omega)
      have nf := order_word (sg x.toNat) (t := t) (by omega)
      have h1 := lt_63 hv
      have h2 := eq_63 hv
      have htoi := toInt_word (sg x.toNat) (t := t) (by omega) hv
      have d1 : toI x.toNat = if -9223372036854775808 ≤ sz (sg x.toNat) (tmag (rg x.toNat)) ∧ sz (sg x.toNat) (tmag (rg x.toNat)) < 9223372036854775808 then sz (sg x.toNat) (tmag (rg x.toNat)) else 0 := by
        unfold toI; simp only [hr, true_and]
      have d2 : toE x.toNat = if -9223372036854775808 ≤ sz (sg x.toNat) (tmag (rg x.toNat)) ∧ sz (sg x.toNat) (tmag (rg x.toNat)) < 9223372036854775808 then 0 else 1 := by
        unfold toE; simp only [hr, true_and]
      rw [d1, d2]
      clear d1 d2 hwr hv
      generalize tmag (rg x.toNat) = T at *
      generalize sg x.toNat = s at *
      cases s
      · have kf' : key (Ieee.double.word false t) = (t : Int) := kf
        have z : sz false T = (T : Int) := rfl
        rw [z]
        rw [z] at htoi
        have og := order_gt nf rg_m63 (by rw [kf', key_m63]; omega)
        by_cases c : T < 9223372036854775808
        · rw [if_pos (by omega), if_pos (by omega)]
          exact (toint_in hn hf (Or.inl og) (order_lt nf rg_p63 (by rw [kf', key_p63]; have := h1.2 c; omega)) (int_val htoi (by omega) (by omega)) w).mono fun e w' ⟨he, hw⟩ => ⟨he, 0, hw⟩
        · rw [if_neg (by omega), if_neg (by omega)]
          have c' : ¬ t < 4890909195324358656 := fun k => c (h1.1 k)
          refine (toint_high hn hf og ?_ w).mono fun e w' ⟨he, hw⟩ => ⟨he, 0, hw⟩
          by_cases ce : t = 4890909195324358656
          · exact Or.inr (order_same nf rg_p63 (by rw [kf', key_p63]; omega) (by rw [kf', key_p63]; omega))
          · exact Or.inl (order_gt nf rg_p63 (by rw [kf', key_p63]; omega))
      · have kf' : key (Ieee.double.word true t) = -(t : Int) := kf
        have z : sz true T = -(T : Int) := rfl
        rw [z]
        rw [z] at htoi
        have ol := order_lt nf rg_p63 (by rw [kf', key_p63]; omega)
        by_cases c : T ≤ 9223372036854775808
        · rw [if_pos (by omega), if_pos (by omega)]
          refine (toint_in hn hf ?_ ol (int_val htoi (by omega) (by omega)) w).mono fun e w' ⟨he, hw⟩ => ⟨he, 0, hw⟩
          by_cases ce : T = 9223372036854775808
          · have := h2.2 ce
            exact Or.inr (order_same nf rg_m63 (by rw [kf', key_m63]; omega) (by rw [kf', key_m63]; omega))
          · have := h1.2 (by omega)
            exact Or.inl (order_gt nf rg_m63 (by rw [kf', key_m63]; omega))
        · rw [if_neg (by omega), if_neg (by omega)]
          have c1 : ¬ t < 4890909195324358656 := fun k => by have := h1.1 k; omega
          have c2 : ¬ t = 4890909195324358656 := fun k => by have := h2.1 k; omega
          exact (toint_low hn hf (order_lt nf rg_m63 (by rw [kf', key_m63]; omega)) w).mono fun e w' ⟨he, hw⟩ => ⟨he, 0, hw⟩
theorem toint_at (x : Int) {v z : Int} (hv : toI x.toNat = v) (hz : toE x.toNat = z) :
    Hid (∀ w : World, Calls Try.prog 16 #[.int .u64 x] w fun e w' => e = .returned (.tuple #[.int .i64 v, .int .i64 z]) ∧ ∃ n, w' = w.drewN n) := by
  intro w; rw [← hv, ← hz]; exact toint_any x w
end Go.Proofs.Ytpfmkhnogobioab
