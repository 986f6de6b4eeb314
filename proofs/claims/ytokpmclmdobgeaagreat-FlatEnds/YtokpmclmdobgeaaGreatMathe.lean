import Ieee.Arith
open Ieee
namespace FltM

/-- 2^52 and 2^63, 2047*2^52 -/
abbrev B : Nat := 4503599627370496
theorem binade_eq : double.binade = 4503599627370496 := by decide
theorem inf_eq : double.infRung = 9218868437227405312 := by decide
theorem sw_eq : double.signWeight = 9223372036854775808 := by decide
theorem lp_eq : double.leastPlace = -1074 := by decide
def sg (x : Nat) : Bool := x / 9223372036854775808 % 2 == 1
def rg (x : Nat) : Nat := x % 9223372036854775808
def mant (r : Nat) : Nat := if r < 4503599627370496 then r else 4503599627370496 + r % 4503599627370496
def shf (r : Nat) : Nat := if r < 4503599627370496 then 0 else r / 4503599627370496 - 1
def val (r : Nat) : Nat := mant r * 2 ^ shf r

theorem read_num {x : Nat} (h : rg x < 9218868437227405312) : double.read x = .number (sg x) (mant (rg x)) (-1074 + (shf (rg x) : Int)) := by
  unfold Format.read
  simp only [binade_eq, inf_eq, sw_eq, lp_eq]
  unfold rg at *
  unfold mant shf sg
  by_cases h1 : x % 9223372036854775808 < 4503599627370496
  · simp [h1]
  · simp [h1, h]

theorem read_inf {x : Nat} (h : rg x = 9218868437227405312) : double.read x = .infinity (sg x) := by
  unfold Format.read
  simp only [binade_eq, inf_eq, sw_eq, lp_eq]
  unfold rg at *
  unfold sg
  simp [h]

theorem read_nan {x : Nat} (h : 9218868437227405312 < rg x) : double.read x = .nan (sg x) (rg x - 9218868437227405312) := by
  unfold Format.read
  simp only [binade_eq, inf_eq, sw_eq, lp_eq]
  unfold rg at *
  unfold sg
  have h1 : ¬ x % 9223372036854775808 < 4503599627370496 := by omega
  have h2 : ¬ x % 9223372036854775808 < 9218868437227405312 := by omega
  have h3 : ¬ x % 9223372036854775808 = 9218868437227405312 := by omega
  simp [h1, h2, h3]

theorem val_succ (r : Nat) : val r < val (r + 1) := by
  unfold val
  have hp : 0 < 2 ^ shf r := Nat.two_pow_pos _
  by_cases h1 : r + 1 < 4503599627370496
  · have e1 : mant r = r := by unfold mant; rw [if_pos (by omega)]
    have e2 : shf r = 0 := by unfold shf; rw [if_pos (by omega)]
    have e3 : mant (r+1) = r+1 := by unfold mant; rw [if_pos (by omega)]
    have e4 : shf (r+1) = 0 := by unfold shf; rw [if_pos (by omega)]
    rw [e1, e2, e3, e4]; omega
  · by_cases h2 : r + 1 = 4503599627370496
    · have e1 : mant r = r := by unfold mant; rw [if_pos (by omega)]
      have e2 : shf r = 0 := by unfold shf; rw [if_pos (by omega)]
      have e3 : mant (r+1) = r+1 := by unfold mant; rw [if_neg (by omega)]; omega
      have e4 : shf (r+1) = 0 := by unfold shf; rw [if_neg (by omega)]; omega
      rw [e1, e2, e3, e4]; omega
    · have e1 : mant r = 4503599627370496 + r % 4503599627370496 := by unfold mant; rw [if_neg (by omega)]
      have e2 : shf r = r / 4503599627370496 - 1 := by unfold shf; rw [if_neg (by omega)]
      have e3 : mant (r+1) = 4503599627370496 + (r+1) % 4503599627370496 := by unfold mant; rw [if_neg (by omega)]
      have e4 : shf (r+1) = (r+1) / 4503599627370496 - 1 := by unfold shf; rw [if_neg (by omega)]
      by_cases h3 : r % 4503599627370496 + 1 < 4503599627370496
      · have e5 : shf (r+1) = shf r := by rw [e4, e2]; omega
        rw [e5, e1, e3]
        exact Nat.mul_lt_mul_of_pos_right (by omega) hp
      · have e5 : shf (r+1) = shf r + 1 := by rw [e4, e2]; omega
        rw [e5, e1, e3, Nat.pow_succ]
        have e6 : (r+1) % 4503599627370496 = 0 := by omega
        rw [e6]
        have : (4503599627370496 + r % 4503599627370496) * 2 ^ shf r < (4503599627370496 * 2) * 2 ^ shf r := Nat.mul_lt_mul_of_pos_right (by omega) hp
        rw [Nat.mul_comm (2 ^ shf r) 2, ← Nat.mul_assoc, Nat.add_zero]
        exact this

theorem val_mono {r t : Nat} (h : r < t) : val r < val t := by
  induction t with
  | zero => omega
  | succ t ih =>
    by_cases h2 : r < t
    · exact Nat.lt_trans (ih h2) (val_succ t)
    · have : r = t := by omega
      subst this; exact val_succ r

theorem val_zero : val 0 = 0 := by decide
theorem val_pos {r : Nat} (h : 0 < r) : 0 < val r := by have := val_mono h; rw [val_zero] at this; exact this

/-- a sign and a size as an integer -/
def sz (s : Bool) (n : Nat) : Int := if s then -(n : Int) else n
def key (x : Nat) : Int := sz (sg x) (rg x)

theorem signed_eq (s : Bool) (m u : Nat) : signed s m u = sz s (m * 2 ^ u) := by
  unfold signed sz; rw [Nat.shiftLeft_eq]

theorem sz_mul (s : Bool) (n c : Nat) : sz s (n * c) = sz s n * c := by
  unfold sz; split <;> simp [Int.neg_mul]

theorem compare_int (a b : Int) : compare a b = if a < b then .lt else if a = b then .eq else .gt := by
  simp only [compare, compareOfLessAndEq]

theorem compare_mul (a b c : Int) (h : 0 < c) : compare (a * c) (b * c) = compare a b := by
  have h1 : a * c < b * c ↔ a < b := ⟨fun q => Int.lt_of_mul_lt_mul_right q (by omega), fun q => Int.mul_lt_mul_of_pos_right q h⟩
  have h2 : a * c = b * c ↔ a = b := ⟨fun q => Int.eq_of_mul_eq_mul_right (by omega) q, fun q => by rw [q]⟩
  rw [compare_int, compare_int]
  simp only [h1, h2]

theorem sz_val_lt (s t : Bool) (r q : Nat) : sz s (val r) < sz t (val q) ↔ sz s r < sz t q := by
  have a0 := val_zero
  rcases Nat.lt_trichotomy r q with h | h | h
  · have := val_mono h
    have hq := val_pos (r := q) (by omega)
    by_cases hr : 0 < r
    · have := val_pos hr
      cases s <;> cases t <;> simp [sz] <;> omega
    · have : r = 0 := by omega
      subst this; cases s <;> cases t <;> simp [sz] <;> omega
  · subst h
    by_cases hr : 0 < r
    · have := val_pos hr
      cases s <;> cases t <;> simp [sz] <;> omega
    · have : r = 0 := by omega
      subst this; cases s <;> cases t <;> simp [sz] <;> omega
  · have := val_mono h
    have hq := val_pos (r := r) (by omega)
    by_cases hr : 0 < q
    · have := val_pos hr
      cases s <;> cases t <;> simp [sz] <;> omega
    · have : q = 0 := by omega
      subst this; cases s <;> cases t <;> simp [sz] <;> omega

theorem compare_val (s t : Bool) (r q : Nat) : compare (sz s (val r)) (sz t (val q)) = compare (sz s r) (sz t q) := by
  have h1 := sz_val_lt s t r q
  have h2 := sz_val_lt t s q r
  rw [compare_int, compare_int]
  by_cases c : sz s r < sz t q
  · rw [if_pos c, if_pos (h1.2 c)]
  · have c' : ¬ sz s (val r) < sz t (val q) := fun k => c (h1.1 k)
    rw [if_neg c, if_neg c']
    by_cases d : sz t q < sz s r
    · have d' := h2.2 d
      rw [if_neg (by omega), if_neg (by omega)]
    · have d' : ¬ sz t (val q) < sz s (val r) := fun k => d (h2.1 k)
      rw [if_pos (by omega), if_pos (by omega)]

/-- what 'signed' makes of a number of this format, at a base not above its place -/
theorem signed_val (s : Bool) (r : Nat) (b : Nat) (h : b ≤ shf r) : signed s (mant r) ((-1074 + (shf r : Int)) - (-1074 + (b : Int))).toNat * (2 ^ b : Nat) = sz s (val r) := by
  rw [signed_eq, ← sz_mul]
  have : ((-1074 + (shf r : Int)) - (-1074 + (b : Int))).toNat = shf r - b := by omega
  rw [this, Nat.mul_assoc, ← Nat.pow_add]
  unfold val
  rw [show shf r - b + b = shf r by omega]

theorem cmp_inf_left (s t : Bool) {q : Nat} (h : q < 9218868437227405312) : some (if s = true then Ordering.lt else Ordering.gt) = some (compare (sz s 9218868437227405312) (sz t q)) := by
  rw [compare_int]
  cases s
  · have h1 : ¬ sz false 9218868437227405312 < sz t q := by cases t <;> simp only [sz] <;> simp <;> omega
    have h2 : ¬ sz false 9218868437227405312 = sz t q := by cases t <;> simp only [sz] <;> simp <;> omega
    rw [if_neg h1, if_neg h2]; rfl
  · have h1 : sz true 9218868437227405312 < sz t q := by cases t <;> simp only [sz] <;> simp <;> omega
    rw [if_pos h1]; rfl
theorem cmp_inf_right (s t : Bool) {q : Nat} (h : q < 9218868437227405312) : some (if t = true then Ordering.gt else Ordering.lt) = some (compare (sz s q) (sz t 9218868437227405312)) := by
  rw [compare_int]
  cases t
  · have h1 : sz s q < sz false 9218868437227405312 := by cases s <;> simp only [sz] <;> simp <;> omega
    rw [if_pos h1]; rfl
  · have h1 : ¬ sz s q < sz true 9218868437227405312 := by cases s <;> simp only [sz] <;> simp <;> omega
    have h2 : ¬ sz s q = sz true 9218868437227405312 := by cases s <;> simp only [sz] <;> simp <;> omega
    rw [if_neg h1, if_neg h2]; rfl

def isNaN (x : Nat) : Prop := 9218868437227405312 < rg x

theorem rg_lt (x : Nat) : rg x < 9223372036854775808 := Nat.mod_lt _ (by omega)

theorem order_nan_left {x y : Nat} (h : 9218868437227405312 < rg x) : double.order x y = none := by
  unfold Format.order; rw [read_nan h]; simp [Datum.order]
theorem order_nan_right {x y : Nat} (h : 9218868437227405312 < rg y) : double.order x y = none := by
  unfold Format.order; rw [read_nan h]
  cases double.read x <;> simp [Datum.order]

theorem order_eq {x y : Nat} (hx : rg x ≤ 9218868437227405312) (hy : rg y ≤ 9218868437227405312) : double.order x y = some (compare (key x) (key y)) := by
  unfold Format.order key
  by_cases h1 : rg x = 9218868437227405312
  · rw [read_inf h1]
    by_cases h2 : rg y = 9218868437227405312
    · rw [read_inf h2, h1, h2]
      cases sg x <;> cases sg y <;> decide
    · rw [read_num (by omega), h1]
      simp only [Datum.order]
      have hy' : rg y < 9218868437227405312 := by omega
      generalize rg y = q at *
      exact cmp_inf_left _ _ hy'
  · rw [read_num (by omega : rg x < _)]
    by_cases h2 : rg y = 9218868437227405312
    · rw [read_inf h2, h2]
      simp only [Datum.order]
      have hx' : rg x < 9218868437227405312 := by omega
      generalize rg x = q at *
      exact cmp_inf_right _ _ hx'
    · rw [read_num (by omega : rg y < _)]
      simp only [Datum.order]
      congr 1
      by_cases hm : shf (rg x) ≤ shf (rg y)
      · have e : min (-1074 + (shf (rg x) : Int)) (-1074 + (shf (rg y) : Int)) = -1074 + (shf (rg x) : Int) := by omega
        rw [e, ← compare_mul _ _ ((2 ^ shf (rg x) : Nat) : Int) (by have := Nat.two_pow_pos (shf (rg x)); omega), signed_val _ _ _ (Nat.le_refl _), signed_val _ _ _ hm, compare_val]
      · have e : min (-1074 + (shf (rg x) : Int)) (-1074 + (shf (rg y) : Int)) = -1074 + (shf (rg y) : Int) := by omega
        rw [e, ← compare_mul _ _ ((2 ^ shf (rg y) : Nat) : Int) (by have := Nat.two_pow_pos (shf (rg y)); omega), signed_val _ _ _ (Nat.le_refl _), signed_val _ _ _ (by omega), compare_val]


/-! ## rounding -/
def rne (n g : Nat) : Nat := n / g + (decide (g < 2 * (n % g)) || (g == 2 * (n % g) && n / g % 2 == 1)).toNat

theorem lt_pow_log (n : Nat) : 2 * n < 2 ^ (n.log2 + 2) := by
  have h : n < 2 ^ (n.log2 + 1) := Nat.lt_log2_self
  rw [Nat.pow_succ]; omega

theorem big_pow {n d : Nat} (h : n.log2 + 2 ≤ d) : 2 * n < 2 ^ d :=
  Nat.lt_of_lt_of_le (lt_pow_log n) (Nat.pow_le_pow_right (by omega) h)

theorem cut_even (neg : Bool) (n d : Nat) : Toward.even.cut neg n d = rne n (2 ^ d) := by
  unfold Toward.cut rne
  simp only [Nat.shiftLeft_eq, Nat.one_mul]
  by_cases h : d ≤ n.log2 + 2
  · rw [Nat.min_eq_left h]
  · rw [Nat.min_eq_right (by omega)]
    have h1 := lt_pow_log n
    have h2 : 2 * n < 2 ^ d := big_pow (by omega)
    have e1 : n / 2 ^ (n.log2 + 2) = 0 := Nat.div_eq_of_lt (by omega)
    have e2 : n % 2 ^ (n.log2 + 2) = n := Nat.mod_eq_of_lt (by omega)
    have e3 : n / 2 ^ d = 0 := Nat.div_eq_of_lt (by omega)
    have e4 : n % 2 ^ d = n := Nat.mod_eq_of_lt (by omega)
    rw [e1, e2, e3, e4]
    have f1 : ¬ 2 ^ (n.log2 + 2) < 2 * n := by omega
    have f2 : ¬ 2 ^ d < 2 * n := by omega
    simp [f1, f2]

/-- 'nearest' with its parts named. -/
def lastOf (m : Nat) (p : Int) : Int := max (p + m.log2 - 52) (-1074)
theorem nearest_eq (s : Bool) {m : Nat} (p : Int) (h : m ≠ 0) :
    double.nearest s m p = double.word s (min ((lastOf m p + 1074).toNat * 4503599627370496 + rne (m * 2 ^ (p - lastOf m p).toNat) (2 ^ (lastOf m p - p).toNat)) 9218868437227405312) := by
  unfold Format.nearest
  rw [if_neg h]
  simp only [binade_eq, inf_eq, lp_eq, cut_even, Nat.shiftLeft_eq]
  unfold lastOf
  rw [show ((52 : Int)) = ((double.fractionBits : Nat) : Int) from rfl]
  simp only [Int.sub_neg]

theorem nearest_zero (s : Bool) (p : Int) : double.nearest s 0 p = double.word s 0 := by
  unfold Format.nearest; rw [if_pos rfl]

theorem rg_word (s : Bool) {r : Nat} (h : r < 9223372036854775808) : rg (double.word s r) = r := by
  unfold rg Format.word; rw [sw_eq]; cases s <;> simp <;> omega
theorem word_lt64 (s : Bool) {r : Nat} (h : r < 9223372036854775808) : double.word s r < 18446744073709551616 := by
  unfold Format.word; rw [sw_eq]; cases s <;> simp <;> omega
/-- what is written of no NaN is no NaN -/
theorem rg_nearest (s : Bool) (m : Nat) (p : Int) : rg (double.nearest s m p) ≤ 9218868437227405312 := by
  by_cases h : m = 0
  · subst h; rw [nearest_zero, rg_word _ (by omega)]; omega
  · rw [nearest_eq s p h, rg_word _ (by omega)]; exact Nat.min_le_right _ _
/-- the class of a number's bits -/
def cls (x : Nat) : Int := if 9218868437227405312 < rg x then 4 else if rg x = 9218868437227405312 then 3 else if 4503599627370496 ≤ rg x then 2 else if 0 < rg x then 1 else 0
def sigs (x : Nat) : Bool := decide (9218868437227405312 < rg x) && decide (x / 2251799813685248 % 2 = 0)
theorem cls_nan (x : Nat) : cls x = 4 ↔ 9218868437227405312 < rg x := by
  unfold cls
  by_cases c : 9218868437227405312 < rg x
  · simp [c]
  · simp only [c, if_false, iff_false]
    repeat' split
    all_goals omega
theorem order_lt {x y : Nat} (hx : ¬ 9218868437227405312 < rg x) (hy : ¬ 9218868437227405312 < rg y) (h : key x < key y) : double.order x y = some .lt := by
  rw [order_eq (by omega) (by omega), compare_int, if_pos h]
theorem order_gt {x y : Nat} (hx : ¬ 9218868437227405312 < rg x) (hy : ¬ 9218868437227405312 < rg y) (h : key y < key x) : double.order x y = some .gt := by
  rw [order_eq (by omega) (by omega), compare_int, if_neg (by omega), if_neg (by omega)]
theorem order_same {x y : Nat} (hx : ¬ 9218868437227405312 < rg x) (hy : ¬ 9218868437227405312 < rg y) (h1 : ¬ key x < key y) (h2 : ¬ key y < key x) : double.order x y = some .eq := by
  rw [order_eq (by omega) (by omega), compare_int, if_neg h1, if_pos (by omega)]
theorem order_none {x y : Nat} (h : 9218868437227405312 < rg x ∨ 9218868437227405312 < rg y) : double.order x y = none := by
  rcases h with h | h
  · exact order_nan_left h
  · exact order_nan_right h

/-! ## the operations, as plain functions of bits -/
def minF (a b : Nat) : Nat := if key a < key b then a else if key b < key a then b else if sg a then a else b
def maxF (a b : Nat) : Nat := if key a < key b then b else if key b < key a then a else if sg a then b else a
def qnan : Nat := 9221120237041090560
def reck (op : Int) (a b : Nat) : Nat :=
  if 9218868437227405312 < rg a ∨ 9218868437227405312 < rg b then qnan
  else if op = 1 then (double.add a b).getD qnan
  else if op = 2 then (double.sub a b).getD qnan
  else if op = 3 then (double.mul a b).getD qnan
  else if op = 4 then (double.div a b).getD qnan
  else if op = 5 then minF a b
  else maxF a b
def tells (op : Int) (a b r : Nat) : Int :=
  if sigs a || sigs b then 1
  else if cls a = 4 ∨ cls b = 4 then 0
  else if cls r = 4 then 1
  else if op = 4 ∧ cls b = 0 ∧ cls a ≠ 0 ∧ cls a ≠ 3 then 2
  else if cls r = 3 ∧ cls a ≠ 3 ∧ cls b ≠ 3 then 4
  else 0

theorem rg_write {d : Datum} (h : d.isNaN = false) : rg (double.write d) ≤ 9218868437227405312 := by
  cases d with
  | number s m p => exact rg_nearest s m p
  | infinity s => simp only [Format.write, inf_eq]; rw [rg_word _ (by omega)]; omega
  | nan s f => simp [Datum.isNaN] at h
theorem sum_not_nan {x y d : Datum} (h : x.sum y = some d) : d.isNaN = false := by
  cases x <;> cases y <;> simp only [Datum.sum] at h
  all_goals first | (cases h; done) | (cases h; rfl) | (split at h <;> first | (cases h; done) | (cases h; rfl))
theorem product_not_nan {x y d : Datum} (h : x.product y = some d) : d.isNaN = false := by
  cases x <;> cases y <;> simp only [Datum.product] at h
  all_goals first | (cases h; done) | (cases h; rfl) | (split at h <;> first | (cases h; done) | (cases h; rfl))
theorem quotient_not_nan {k : Nat} {x y d : Datum} (h : x.quotient k y = some d) : d.isNaN = false := by
  cases x <;> cases y <;> simp only [Datum.quotient] at h
  all_goals first | (cases h; done) | (cases h; rfl) | skip
  split at h
  · split at h
    · cases h
    · cases h; rfl
  · cases h; rfl
theorem map_write_not_nan {d : Option Datum} {r : Nat} (hd : ∀ x, d = some x → x.isNaN = false) (h : d.map double.write = some r) : ¬ 9218868437227405312 < rg r := by
  cases d with
  | none => cases h
  | some x => cases h; have := rg_write (hd x rfl); omega
theorem add_not_nan {x y r : Nat} (h : double.add x y = some r) : ¬ 9218868437227405312 < rg r := map_write_not_nan (fun _ => sum_not_nan) h
theorem sub_not_nan {x y r : Nat} (h : double.sub x y = some r) : ¬ 9218868437227405312 < rg r := map_write_not_nan (fun _ => sum_not_nan) h
theorem mul_not_nan {x y r : Nat} (h : double.mul x y = some r) : ¬ 9218868437227405312 < rg r := map_write_not_nan (fun _ => product_not_nan) h
theorem div_not_nan {x y r : Nat} (h : double.div x y = some r) : ¬ 9218868437227405312 < rg r := map_write_not_nan (fun _ => quotient_not_nan) h

theorem neg_read {x : Nat} (h : ¬ 9218868437227405312 < rg x) : (double.read x).neg = sg x := by
  by_cases c : rg x = 9218868437227405312
  · rw [read_inf c]; rfl
  · rw [read_num (by omega)]; rfl

def flip (a : Nat) : Nat := (a + 9223372036854775808) % 18446744073709551616
def doR (op : Int) (a b : Nat) : Nat := if op < 1 ∨ 8 < op then 0 else if op = 7 then flip a else if op = 8 then rg a else reck op a b
def doT (op : Int) (a b : Nat) : Int := if op < 1 ∨ 6 < op then 0 else tells op a b (reck op a b)
def doE (op : Int) : Int := if op < 1 ∨ 8 < op then 1 else 0

theorem xor_top {a : Nat} (h : a < 18446744073709551616) : a ^^^ 9223372036854775808 = flip a := by
  have h1 : (a ^^^ 2 ^ 63) / 2 ^ 63 = a / 2 ^ 63 ^^^ 2 ^ 63 / 2 ^ 63 := Nat.xor_div_two_pow
  have h2 : (a ^^^ 2 ^ 63) % 2 ^ 63 = a % 2 ^ 63 ^^^ 2 ^ 63 % 2 ^ 63 := Nat.xor_mod_two_pow
  rw [show (2 : Nat) ^ 63 = 9223372036854775808 from rfl] at h1 h2
  rw [show 9223372036854775808 / 9223372036854775808 = 1 from rfl] at h1
  rw [show 9223372036854775808 % 9223372036854775808 = 0 from rfl, Nat.xor_zero] at h2
  unfold flip
  rcases (show a / 9223372036854775808 = 0 ∨ a / 9223372036854775808 = 1 by omega) with c | c
  · rw [c, show 0 ^^^ 1 = 1 from rfl] at h1; omega
  · rw [c, show 1 ^^^ 1 = 0 from rfl] at h1; omega
theorem and_low {a : Nat} : a &&& 9223372036854775807 = rg a := by
  have := Nat.and_two_pow_sub_one_eq_mod a 63
  rw [show (2 : Nat) ^ 63 - 1 = 9223372036854775807 from rfl, show (2 : Nat) ^ 63 = 9223372036854775808 from rfl] at this
  exact this

theorem some_lt {d : Option Datum} {r : Nat} (h : d.map double.write = some r) : r < 18446744073709551616 := by
  cases d with
  | none => cases h
  | some x =>
    cases h
    cases x with
    | number s m p =>
      simp only [Format.write]
      by_cases c : m = 0
      · subst c; rw [nearest_zero]; exact word_lt64 _ (by omega)
      · rw [nearest_eq s p c]; exact word_lt64 _ (by omega)
    | infinity s => simp only [Format.write, inf_eq]; exact word_lt64 _ (by omega)
    | nan s f => simp only [Format.write, inf_eq, binade_eq]; exact word_lt64 _ (by omega)
theorem reck_lt (op : Int) {a b : Nat} (ha : a < 18446744073709551616) (hb : b < 18446744073709551616) : reck op a b < 18446744073709551616 := by
  have hq : qnan < 18446744073709551616 := by unfold qnan; omega
  unfold reck
  split
  · exact hq
  split
  · cases h : double.add a b with
    | none => exact hq
    | some r => exact some_lt h
  split
  · cases h : double.sub a b with
    | none => exact hq
    | some r => exact some_lt h
  split
  · cases h : double.mul a b with
    | none => exact hq
    | some r => exact some_lt h
  split
  · cases h : double.div a b with
    | none => exact hq
    | some r => exact some_lt h
  split
  · unfold minF; repeat' split
    all_goals assumption
  · unfold maxF; repeat' split
    all_goals assumption
theorem doR_lt (op : Int) {a b : Nat} (ha : a < 18446744073709551616) (hb : b < 18446744073709551616) : doR op a b < 18446744073709551616 := by
  unfold doR
  split
  · omega
  split
  · unfold flip; omega
  split
  · have := rg_lt a; omega
  exact reck_lt op ha hb

end FltM
