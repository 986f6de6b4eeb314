/- States are compared; a state as the document's. -/
import Derived.Test.YtcieglidghnidaaA1
namespace Go.Proofs.Ytcieglidghnidaa
open Go.ChangeShapes Go.WideShapes Go.ChangeAt Go.RowKit Go.Maps
set_option linter.unusedSimpArgs false
set_option linter.unusedVariables false

theorem eqI (d : Nat) (a b : Int) (W : World) : (Op.equalIn (d + 1) 3 (.int .i64 a) (.int .i64 b)).run Try.prog W = .ok (a == b) W := run_equalIn_int W d _ .i64 .i64 a b Try.underlying3
theorem eqU (d : Nat) (a b : Int) (W : World) : (Op.equalIn (d + 1) 22 (.int .u64 a) (.int .u64 b)).run Try.prog W = .ok (a == b) W := run_equalIn_int W d _ .u64 .u64 a b Try.underlying22
theorem eqB (d : Nat) (a b : Bool) (W : World) : (Op.equalIn (d + 1) 4 (.bool a) (.bool b)).run Try.prog W = .ok (a == b) W := run_equalIn_bool W d _ a b Try.underlying4
theorem eqFt (d : Nat) (a b a' b' : Int) (W : World) : (Op.equalIn (d + 2) 26 (.agg #[.int .u64 a, .int .i64 b]) (.agg #[.int .u64 a', .int .i64 b'])).run Try.prog W = .ok (a == a' && b == b') W := by
  rw [run_equalIn_struct W (d + 1) 26 _ _ (by kernel_rfl) (by kernel_rfl)]
  have p0 : ∀ (x y : Value) (W : World), (part 22 #[x, y] 0).run Try.prog W = .ok x W := fun x y W => by kernel_rfl
  have p1 : ∀ (x y : Value) (W : World), (part 3 #[x, y] 1).run Try.prog W = .ok y W := fun x y W => by kernel_rfl
  simp only [Program.fieldsOf, Try.underlying26]
  simp [Op.eqFields, p0, p1, eqI, eqU]
  cases h1 : (a == a') <;> cases h2 : (b == b') <;> simp_all
theorem eqRa (d : Nat) (a b c e a' b' c' e' : Int) (W : World) : (Op.equalIn (d + 2) 24 (.agg #[.int .u64 a, .int .u64 b, .int .u64 c, .int .u64 e]) (.agg #[.int .u64 a', .int .u64 b', .int .u64 c', .int .u64 e'])).run Try.prog W = .ok (a == a' && (b == b' && (c == c' && e == e'))) W := by
  obtain ⟨i0, hi⟩ := Option.isSome_iff_exists.1 (show (Try.prog.info? 22).isSome = true by kernel_rfl)
  have hc : Try.prog.cellsOf 22 = 1 := by kernel_rfl
  rw [run_equalIn_array W (d + 1) _ _ Try.underlying24 hi, hc]
  have p0 : ∀ (x y z v : Value) (W : World), (part 22 #[x, y, z, v] (0 * 1)).run Try.prog W = .ok x W := fun x y z v W => by kernel_rfl
  have p1 : ∀ (x y z v : Value) (W : World), (part 22 #[x, y, z, v] (1 * 1)).run Try.prog W = .ok y W := fun x y z v W => by kernel_rfl
  have p2 : ∀ (x y z v : Value) (W : World), (part 22 #[x, y, z, v] (2 * 1)).run Try.prog W = .ok z W := fun x y z v W => by kernel_rfl
  have p3 : ∀ (x y z v : Value) (W : World), (part 22 #[x, y, z, v] (3 * 1)).run Try.prog W = .ok v W := fun x y z v W => by kernel_rfl
  have hr : List.range 4 = [0, 1, 2, 3] := rfl
  rw [hr]
  simp only [Op.eqItems, Sem.run_bind, p0, p1, p2, p3, eqU, Result.andThen_ok]
  by_cases h0 : a = a' <;> by_cases h1 : b = b' <;> by_cases h2 : c = c' <;> by_cases h3 : e = e' <;> simp [h0, h1, h2, h3, Op.eqItems, Sem.run_bind, p0, p1, p2, p3, eqU, Result.andThen_ok]
theorem eqRb (d : Nat) (a b c e a' b' c' e' : Int) (W : World) : (Op.equalIn (d + 2) 23 (.agg #[.int .u64 a, .int .u64 b, .int .u64 c, .int .u64 e]) (.agg #[.int .u64 a', .int .u64 b', .int .u64 c', .int .u64 e'])).run Try.prog W = .ok (a == a' && (b == b' && (c == c' && e == e'))) W := by
  obtain ⟨i0, hi⟩ := Option.isSome_iff_exists.1 (show (Try.prog.info? 22).isSome = true by kernel_rfl)
  have hc : Try.prog.cellsOf 22 = 1 := by kernel_rfl
  rw [run_equalIn_array W (d + 1) _ _ Try.underlying23 hi, hc]
  have p0 : ∀ (x y z v : Value) (W : World), (part 22 #[x, y, z, v] (0 * 1)).run Try.prog W = .ok x W := fun x y z v W => by kernel_rfl
  have p1 : ∀ (x y z v : Value) (W : World), (part 22 #[x, y, z, v] (1 * 1)).run Try.prog W = .ok y W := fun x y z v W => by kernel_rfl
  have p2 : ∀ (x y z v : Value) (W : World), (part 22 #[x, y, z, v] (2 * 1)).run Try.prog W = .ok z W := fun x y z v W => by kernel_rfl
  have p3 : ∀ (x y z v : Value) (W : World), (part 22 #[x, y, z, v] (3 * 1)).run Try.prog W = .ok v W := fun x y z v W => by kernel_rfl
  have hr : List.range 4 = [0, 1, 2, 3] := rfl
  rw [hr]
  simp only [Op.eqItems, Sem.run_bind, p0, p1, p2, p3, eqU, Result.andThen_ok]
  by_cases h0 : a = a' <;> by_cases h1 : b = b' <;> by_cases h2 : c = c' <;> by_cases h3 : e = e' <;> simp [h0, h1, h2, h3, Op.eqItems, Sem.run_bind, p0, p1, p2, p3, eqU, Result.andThen_ok]
theorem qa0 (x0 x1 x2 x3 x4 x5 x6 x7 x8 x9 x10 x11 x12 : Value) (W : World) : (part 24 #[x0, x1, x2, x3, x4, x5, x6, x7, x8, x9, x10, x11, x12] 0).run Try.prog W = .ok (.agg #[x0, x1, x2, x3]) W := by kernel_rfl
theorem qb0 (x0 x1 x2 x3 x4 x5 x6 x7 x8 x9 x10 x11 x12 : Value) (W : World) : (part 23 #[x0, x1, x2, x3, x4, x5, x6, x7, x8, x9, x10, x11, x12] 0).run Try.prog W = .ok (.agg #[x0, x1, x2, x3]) W := by kernel_rfl
theorem q4 (x0 x1 x2 x3 x4 x5 x6 x7 x8 x9 x10 x11 x12 : Value) (W : World) : (part 3 #[x0, x1, x2, x3, x4, x5, x6, x7, x8, x9, x10, x11, x12] 4).run Try.prog W = .ok x4 W := by kernel_rfl
theorem q5 (x0 x1 x2 x3 x4 x5 x6 x7 x8 x9 x10 x11 x12 : Value) (W : World) : (part 22 #[x0, x1, x2, x3, x4, x5, x6, x7, x8, x9, x10, x11, x12] 5).run Try.prog W = .ok x5 W := by kernel_rfl
theorem q6 (x0 x1 x2 x3 x4 x5 x6 x7 x8 x9 x10 x11 x12 : Value) (W : World) : (part 4 #[x0, x1, x2, x3, x4, x5, x6, x7, x8, x9, x10, x11, x12] 6).run Try.prog W = .ok x6 W := by kernel_rfl
theorem q7 (x0 x1 x2 x3 x4 x5 x6 x7 x8 x9 x10 x11 x12 : Value) (W : World) : (part 26 #[x0, x1, x2, x3, x4, x5, x6, x7, x8, x9, x10, x11, x12] 7).run Try.prog W = .ok (.agg #[x7, x8]) W := by kernel_rfl
theorem qa9 (x0 x1 x2 x3 x4 x5 x6 x7 x8 x9 x10 x11 x12 : Value) (W : World) : (part 24 #[x0, x1, x2, x3, x4, x5, x6, x7, x8, x9, x10, x11, x12] 9).run Try.prog W = .ok (.agg #[x9, x10, x11, x12]) W := by kernel_rfl
theorem qb9 (x0 x1 x2 x3 x4 x5 x6 x7 x8 x9 x10 x11 x12 : Value) (W : World) : (part 23 #[x0, x1, x2, x3, x4, x5, x6, x7, x8, x9, x10, x11, x12] 9).run Try.prog W = .ok (.agg #[x9, x10, x11, x12]) W := by kernel_rfl
set_option maxHeartbeats 2000000 in
theorem equalS (d : Nat) (c c' : St) (W : World) : (Op.equalIn (d + 3) 28 c.val c'.val).run Try.prog W = .ok (decide (c = c')) W := by
  rw [run_equalIn_struct W (d + 2) 28 _ _ (by kernel_rfl) (by kernel_rfl)]
  simp only [Program.fieldsOf, Try.underlying28]
  simp [Op.eqFields, qa0, q4, q5, q6, q7, qa9, eqI, eqU, eqB, eqFt, eqRa]
  by_cases e : c = c'
  · subst e
    simp
  · rw [decide_eq_false e]
    obtain ⟨c0, c1, c2, c3, c4, c5, c6, c7, c8, c9, c10, c11, c12⟩ := c
    obtain ⟨d0, d1, d2, d3, d4, d5, d6, d7, d8, d9, d10, d11, d12⟩ := c'
    simp only [St.mk.injEq, not_and] at e
    simp only
    repeat (first | rfl | (split; (first | rfl | skip)))
    all_goals simp_all
theorem eqS (c c' : St) (W : World) : (binOp .eql 28 c.val c'.val).run Try.prog W = .ok (.bool (decide (c = c'))) W := by
  have := equalS 9997 c c' W
  simp only [binOp, Op.equal, Sem.run_bind]
  rw [show Op.maxDepth = 9997 + 3 from rfl, this]; rfl
set_option maxHeartbeats 2000000 in
theorem equalX (d : Nat) (c c' : St) (W : World) : (Op.equalIn (d + 3) 31 c.val c'.val).run Try.prog W = .ok (decide (c = c')) W := by
  rw [run_equalIn_struct W (d + 2) 31 _ _ (by kernel_rfl) (by kernel_rfl)]
  simp only [Program.fieldsOf, Try.underlying31]
  simp [Op.eqFields, qb0, q4, q5, q6, q7, qb9, eqI, eqU, eqB, eqFt, eqRb]
  by_cases e : c = c'
  · subst e
    simp
  · rw [decide_eq_false e]
    obtain ⟨c0, c1, c2, c3, c4, c5, c6, c7, c8, c9, c10, c11, c12⟩ := c
    obtain ⟨d0, d1, d2, d3, d4, d5, d6, d7, d8, d9, d10, d11, d12⟩ := c'
    simp only [St.mk.injEq, not_and] at e
    simp only
    repeat (first | rfl | (split; (first | rfl | skip)))
    all_goals simp_all
theorem eqX (c c' : St) (W : World) : (binOp .eql 31 c.val c'.val).run Try.prog W = .ok (.bool (decide (c = c'))) W := by
  have := equalX 9997 c c' W
  simp only [binOp, Op.equal, Sem.run_bind]
  rw [show Op.maxDepth = 9997 + 3 from rfl, this]; rfl
end Go.Proofs.Ytcieglidghnidaa
