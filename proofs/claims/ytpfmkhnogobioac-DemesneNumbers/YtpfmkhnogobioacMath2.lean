/- Plain facts on numbers' bits: turned signs, operands that change places. -/
import Derived.Test.YtpfmkhnogobioacMath
namespace FltM
open Ieee
set_option linter.unusedVariables false

theorem sum_comm (x y : Datum) : x.sum y = y.sum x := by
  cases x <;> cases y <;> simp only [Datum.sum]
  · rename_i s m i t n j
    rw [Int.min_comm, Int.add_comm, Bool.and_comm]
  · rename_i s t
    by_cases h : s = t
    · subst h; rfl
    · rw [if_neg h, if_neg (fun k => h k.symm)]
theorem product_comm (x y : Datum) : x.product y = y.product x := by
  cases x <;> cases y <;> simp only [Datum.product]
  · rename_i s m i t n j
    rw [Nat.mul_comm, Int.add_comm, Bool.xor_comm]
  · rename_i s t
    rw [Bool.xor_comm]
theorem add_comm' (a b : Nat) : double.add a b = double.add b a := by unfold Format.add; rw [sum_comm]
theorem mul_comm' (a b : Nat) : double.mul a b = double.mul b a := by unfold Format.mul; rw [product_comm]

theorem eq_of_key {a b : Nat} (ha : a < 18446744073709551616) (hb : b < 18446744073709551616) (h : key a = key b) (hs : sg a = sg b) : a = b := by
  rw [← word_self ha, ← word_self hb, hs]
  unfold key sz at h
  rw [hs] at h
  congr 1
  split at h <;> omega
theorem minF_comm {a b : Nat} (ha : a < 18446744073709551616) (hb : b < 18446744073709551616) : minF a b = minF b a := by
  unfold minF
  by_cases c1 : key a < key b
  · rw [if_pos c1, if_neg (by omega), if_pos c1]
  · rw [if_neg c1]
    by_cases c2 : key b < key a
    · rw [if_pos c2, if_pos c2]
    · rw [if_neg c2, if_neg c2, if_neg c1]
      cases h1 : sg a <;> cases h2 : sg b
      · show b = a
        exact (eq_of_key ha hb (by omega) (by rw [h1, h2])).symm
      · rfl
      · rfl
      · show a = b
        exact eq_of_key ha hb (by omega) (by rw [h1, h2])
theorem maxF_comm {a b : Nat} (ha : a < 18446744073709551616) (hb : b < 18446744073709551616) : maxF a b = maxF b a := by
  unfold maxF
  by_cases c1 : key a < key b
  · rw [if_pos c1, if_neg (by omega), if_pos c1]
  · rw [if_neg c1]
    by_cases c2 : key b < key a
    · rw [if_pos c2, if_pos c2]
    · rw [if_neg c2, if_neg c2, if_neg c1]
      cases h1 : sg a <;> cases h2 : sg b
      · show a = b
        exact eq_of_key ha hb (by omega) (by rw [h1, h2])
      · rfl
      · rfl
      · show b = a
        exact (eq_of_key ha hb (by omega) (by rw [h1, h2])).symm
theorem or_comm_if {α : Type} {p q : Prop} [Decidable (p ∨ q)] [Decidable (q ∨ p)] (x y : α) : (if p ∨ q then x else y) = if q ∨ p then x else y := by
  by_cases h : p ∨ q
  · rw [if_pos h, if_pos (Or.symm h)]
  · rw [if_neg h, if_neg (fun k => h (Or.symm k))]
theorem reck_comm {op : Int} {a b : Nat} (h : op = 1 ∨ op = 3 ∨ op = 5 ∨ op = 6) (ha : a < 18446744073709551616) (hb : b < 18446744073709551616) : reck op a b = reck op b a := by
  unfold reck
  by_cases c : 9218868437227405312 < rg a ∨ 9218868437227405312 < rg b
  · rw [if_pos c, if_pos (Or.symm c)]
  · rw [if_neg c, if_neg (fun k => c (Or.symm k)), add_comm', mul_comm', minF_comm ha hb, maxF_comm ha hb]
    rcases h with h | h | h | h <;> subst h <;> rfl
theorem tells_comm {op : Int} (a b r : Nat) (h : op ≠ 4) : tells op a b r = tells op b a r := by
  unfold tells
  rw [Bool.or_comm]
  split
  · rfl
  · by_cases c : cls a = 4 ∨ cls b = 4
    · rw [if_pos c, if_pos (Or.symm c)]
    · rw [if_neg c, if_neg (fun k => c (Or.symm k))]
      split
      · rfl
      · simp only [h, false_and, if_false]
        by_cases d : cls r = 3 ∧ cls a ≠ 3 ∧ cls b ≠ 3
        · rw [if_pos d, if_pos ⟨d.1, d.2.2, d.2.1⟩]
        · rw [if_neg d, if_neg (fun k => d ⟨k.1, k.2.2, k.2.1⟩)]
theorem doR_comm {op : Int} {a b : Nat} (h : op = 1 ∨ op = 3 ∨ op = 5 ∨ op = 6) (ha : a < 18446744073709551616) (hb : b < 18446744073709551616) : doR op a b = doR op b a := by
  unfold doR
  rw [if_neg (by omega), if_neg (by omega), if_neg (by omega), if_neg (by omega), if_neg (by omega), if_neg (by omega), reck_comm h ha hb]
theorem doT_comm {op : Int} {a b : Nat} (h : op = 1 ∨ op = 3 ∨ op = 5 ∨ op = 6) (ha : a < 18446744073709551616) (hb : b < 18446744073709551616) : doT op a b = doT op b a := by
  unfold doT
  rw [if_neg (by omega), if_neg (by omega), reck_comm h ha hb, tells_comm _ _ _ (by omega)]

/-! ### a sign that is turned -/
theorem flip_lt (a : Nat) : FltM.flip a < 18446744073709551616 := Nat.mod_lt _ (by omega)
theorem rg_flip (a : Nat) : rg (FltM.flip a) = rg a := by unfold rg FltM.flip; omega
theorem sg_flip {a : Nat} (h : a < 18446744073709551616) : sg (FltM.flip a) = !sg a := by
  unfold sg FltM.flip
  by_cases c : a / 9223372036854775808 % 2 = 1
  · rw [beq_iff_eq.2 c]; rw [Bool.not_true, beq_eq_false_iff_ne]; omega
  · rw [beq_eq_false_iff_ne.2 c, Bool.not_false, beq_iff_eq]; omega
theorem flip_flip {a : Nat} (h : a < 18446744073709551616) : FltM.flip (FltM.flip a) = a := by unfold FltM.flip; omega
theorem cls_flip (a : Nat) : cls (FltM.flip a) = cls a := by unfold cls; rw [rg_flip]
theorem sigs_flip (a : Nat) : sigs (FltM.flip a) = sigs a := by
  have e : FltM.flip a / 2251799813685248 % 2 = a / 2251799813685248 % 2 := by unfold FltM.flip; omega
  unfold sigs; rw [rg_flip, e]
theorem read_flip {a : Nat} (h : a < 18446744073709551616) : double.read (FltM.flip a) = (double.read a).opposite := by
  have hr := rg_flip a
  have hs := sg_flip h
  by_cases c1 : rg a < 9218868437227405312
  · rw [read_num (by rw [hr]; exact c1), read_num c1, hr, hs]; rfl
  · by_cases c2 : rg a = 9218868437227405312
    · rw [read_inf (by rw [hr]; exact c2), read_inf c2, hs]; rfl
    · rw [read_nan (by rw [hr]; omega), read_nan (by omega), hr, hs]; rfl
theorem reck_sub (a : Nat) {b : Nat} (h : b < 18446744073709551616) : reck 1 a (FltM.flip b) = reck 2 a b := by
  have e : double.add a (FltM.flip b) = double.sub a b := by unfold Format.add Format.sub; rw [read_flip h]
  unfold reck
  rw [rg_flip, e, if_pos rfl, if_neg (by omega : ¬ (2 : Int) = 1), if_pos rfl]
theorem tells_sub (a b r : Nat) : tells 1 a (FltM.flip b) r = tells 2 a b r := by
  unfold tells
  rw [sigs_flip, cls_flip, if_neg (fun k => by omega : ¬ ((1 : Int) = 4 ∧ cls b = 0 ∧ cls a ≠ 0 ∧ cls a ≠ 3)), if_neg (fun k => by omega : ¬ ((2 : Int) = 4 ∧ cls b = 0 ∧ cls a ≠ 0 ∧ cls a ≠ 3))]
theorem doR_sub (a : Nat) {b : Nat} (h : b < 18446744073709551616) : doR 1 a (FltM.flip b) = doR 2 a b := by
  unfold doR
  rw [if_neg (by omega), if_neg (by omega), if_neg (by omega), if_neg (by omega), if_neg (by omega), if_neg (by omega), reck_sub a h]
theorem doT_sub (a : Nat) {b : Nat} (h : b < 18446744073709551616) : doT 1 a (FltM.flip b) = doT 2 a b := by
  unfold doT
  rw [if_neg (by omega), if_neg (by omega), reck_sub a h, tells_sub]
theorem doR_neg (a b : Nat) : doR 7 a b = FltM.flip a := by unfold doR; rw [if_neg (by omega), if_pos rfl]
theorem doT_neg (a b : Nat) : doT 7 a b = 0 := by unfold doT; rw [if_pos (by omega)]
theorem doR_abs (a b : Nat) : doR 8 a b = rg a := by unfold doR; rw [if_neg (by omega), if_neg (by omega), if_pos rfl]
theorem doT_abs (a b : Nat) : doT 8 a b = 0 := by unfold doT; rw [if_pos (by omega)]
theorem doE_ok {op : Int} (h1 : 1 ≤ op) (h2 : op ≤ 8) : doE op = 0 := by unfold doE; rw [if_neg (by omega)]
end FltM
