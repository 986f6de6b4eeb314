/- Calls and words are compared; what the words say. -/
import Derived.Test.YtccbacjiiffheaaCJ
namespace Go.Proofs.Ytccbacjiiffheaa
open Go.ChangeShapes Go.WideShapes Go.ChangeAt Go.RowKit Go.Maps
set_option linter.unusedSimpArgs false
set_option linter.unusedVariables false

deriving instance DecidableEq for Cl
deriving instance DecidableEq for Wd
theorem eqI (d : Nat) (a b : Int) (W : World) : (Op.equalIn (d + 1) 3 (.int .i64 a) (.int .i64 b)).run Try.prog W = .ok (a == b) W := run_equalIn_int W d _ .i64 .i64 a b Try.underlying3
theorem eqU (d : Nat) (a b : Int) (W : World) : (Op.equalIn (d + 1) 22 (.int .u64 a) (.int .u64 b)).run Try.prog W = .ok (a == b) W := run_equalIn_int W d _ .u64 .u64 a b Try.underlying22
theorem eqB (d : Nat) (a b : Bool) (W : World) : (Op.equalIn (d + 1) 4 (.bool a) (.bool b)).run Try.prog W = .ok (a == b) W := run_equalIn_bool W d _ a b Try.underlying4
theorem eqRg (d : Nat) (a b a' b' : Int) (W : World) : (Op.equalIn (d + 2) 26 (.agg #[.int .i64 a, .int .i64 b]) (.agg #[.int .i64 a', .int .i64 b'])).run Try.prog W = .ok (a == a' && b == b') W := by
  rw [run_equalIn_struct W (d + 1) 26 _ _ (by kernel_rfl) (by kernel_rfl)]
  have p0 : ∀ (x y : Value) (W : World), (part 3 #[x, y] 0).run Try.prog W = .ok x W := fun x y W => by kernel_rfl
  have p1 : ∀ (x y : Value) (W : World), (part 3 #[x, y] 1).run Try.prog W = .ok y W := fun x y W => by kernel_rfl
  simp only [Program.fieldsOf, Try.underlying26]
  simp [Op.eqFields, p0, p1, eqI]
  cases h1 : (a == a') <;> cases h2 : (b == b') <;> simp_all
theorem eqPm (d : Nat) (a b c a' b' c' : Bool) (W : World) : (Op.equalIn (d + 2) 28 (.agg #[.bool a, .bool b, .bool c]) (.agg #[.bool a', .bool b', .bool c'])).run Try.prog W = .ok (a == a' && (b == b' && c == c')) W := by
  rw [run_equalIn_struct W (d + 1) 28 _ _ (by kernel_rfl) (by kernel_rfl)]
  have p0 : ∀ (x y z : Value) (W : World), (part 4 #[x, y, z] 0).run Try.prog W = .ok x W := fun x y z W => by kernel_rfl
  have p1 : ∀ (x y z : Value) (W : World), (part 4 #[x, y, z] 1).run Try.prog W = .ok y W := fun x y z W => by kernel_rfl
  have p2 : ∀ (x y z : Value) (W : World), (part 4 #[x, y, z] 2).run Try.prog W = .ok z W := fun x y z W => by kernel_rfl
  simp only [Program.fieldsOf, Try.underlying28]
  simp [Op.eqFields, p0, p1, p2, eqB]
  cases a <;> cases a' <;> cases b <;> cases b' <;> cases c <;> cases c' <;> simp
theorem q0 (x0 x1 x2 x3 x4 x5 x6 x7 x8 x9 x10 x11 x12 : Value) (W : World) : (part 3 #[x0, x1, x2, x3, x4, x5, x6, x7, x8, x9, x10, x11, x12] 0).run Try.prog W = .ok x0 W := by kernel_rfl
theorem q1 (x0 x1 x2 x3 x4 x5 x6 x7 x8 x9 x10 x11 x12 : Value) (W : World) : (part 26 #[x0, x1, x2, x3, x4, x5, x6, x7, x8, x9, x10, x11, x12] 1).run Try.prog W = .ok (.agg #[x1, x2]) W := by kernel_rfl
theorem q3 (x0 x1 x2 x3 x4 x5 x6 x7 x8 x9 x10 x11 x12 : Value) (W : World) : (part 28 #[x0, x1, x2, x3, x4, x5, x6, x7, x8, x9, x10, x11, x12] 3).run Try.prog W = .ok (.agg #[x3, x4, x5]) W := by kernel_rfl
theorem q6 (x0 x1 x2 x3 x4 x5 x6 x7 x8 x9 x10 x11 x12 : Value) (W : World) : (part 22 #[x0, x1, x2, x3, x4, x5, x6, x7, x8, x9, x10, x11, x12] 6).run Try.prog W = .ok x6 W := by kernel_rfl
theorem q7 (x0 x1 x2 x3 x4 x5 x6 x7 x8 x9 x10 x11 x12 : Value) (W : World) : (part 3 #[x0, x1, x2, x3, x4, x5, x6, x7, x8, x9, x10, x11, x12] 7).run Try.prog W = .ok x7 W := by kernel_rfl
theorem q8 (x0 x1 x2 x3 x4 x5 x6 x7 x8 x9 x10 x11 x12 : Value) (W : World) : (part 22 #[x0, x1, x2, x3, x4, x5, x6, x7, x8, x9, x10, x11, x12] 8).run Try.prog W = .ok x8 W := by kernel_rfl
theorem q9 (x0 x1 x2 x3 x4 x5 x6 x7 x8 x9 x10 x11 x12 : Value) (W : World) : (part 3 #[x0, x1, x2, x3, x4, x5, x6, x7, x8, x9, x10, x11, x12] 9).run Try.prog W = .ok x9 W := by kernel_rfl
theorem q10 (x0 x1 x2 x3 x4 x5 x6 x7 x8 x9 x10 x11 x12 : Value) (W : World) : (part 3 #[x0, x1, x2, x3, x4, x5, x6, x7, x8, x9, x10, x11, x12] 10).run Try.prog W = .ok x10 W := by kernel_rfl
theorem q11 (x0 x1 x2 x3 x4 x5 x6 x7 x8 x9 x10 x11 x12 : Value) (W : World) : (part 3 #[x0, x1, x2, x3, x4, x5, x6, x7, x8, x9, x10, x11, x12] 11).run Try.prog W = .ok x11 W := by kernel_rfl
theorem q12 (x0 x1 x2 x3 x4 x5 x6 x7 x8 x9 x10 x11 x12 : Value) (W : World) : (part 3 #[x0, x1, x2, x3, x4, x5, x6, x7, x8, x9, x10, x11, x12] 12).run Try.prog W = .ok x12 W := by kernel_rfl
theorem q1i (x0 x1 x2 x3 x4 x5 x6 x7 x8 x9 x10 x11 x12 : Value) (W : World) : (part 3 #[x0, x1, x2, x3, x4, x5, x6, x7, x8, x9, x10, x11, x12] 1).run Try.prog W = .ok x1 W := by kernel_rfl
theorem q2i (x0 x1 x2 x3 x4 x5 x6 x7 x8 x9 x10 x11 x12 : Value) (W : World) : (part 3 #[x0, x1, x2, x3, x4, x5, x6, x7, x8, x9, x10, x11, x12] 2).run Try.prog W = .ok x2 W := by kernel_rfl
set_option maxHeartbeats 2000000 in
theorem equalC (d : Nat) (c c' : Cl) (W : World) : (Op.equalIn (d + 3) 30 c.val c'.val).run Try.prog W = .ok (decide (c = c')) W := by
  rw [run_equalIn_struct W (d + 2) 30 _ _ (by kernel_rfl) (by kernel_rfl)]
  simp only [Program.fieldsOf, Try.underlying30]
  simp [Op.eqFields, q0, q1, q3, q6, q7, q8, q9, q10, q11, q12, q1i, q2i, eqI, eqU, eqB, eqRg, eqPm]
  by_cases e : c = c'
  · subst e
    simp
  · rw [decide_eq_false e]
    obtain ⟨c0, c1, c2, c3, c4, c5, c6, c7, c8, c9, c10, c11, c12⟩ := c
    obtain ⟨d0, d1, d2, d3, d4, d5, d6, d7, d8, d9, d10, d11, d12⟩ := c'
    simp only [Cl.mk.injEq, not_and] at e
    simp only
    repeat (first | rfl | (split; (first | rfl | skip)))
    all_goals simp_all
theorem eqC (c c' : Cl) (W : World) : (binOp .eql 30 c.val c'.val).run Try.prog W = .ok (.bool (decide (c = c'))) W := by
  have := equalC 9997 c c' W
  simp only [binOp, Op.equal, Sem.run_bind]
  rw [show Op.maxDepth = 9997 + 3 from rfl, this]; rfl
theorem neC (c c' : Cl) (W : World) : (binOp .neq 30 c.val c'.val).run Try.prog W = .ok (.bool (!decide (c = c'))) W := by
  have := equalC 9997 c c' W
  simp only [binOp, Op.equal, Sem.run_bind]
  rw [show Op.maxDepth = 9997 + 3 from rfl, this]; rfl
set_option maxHeartbeats 2000000 in
theorem equalX (d : Nat) (c c' : Cl) (W : World) : (Op.equalIn (d + 3) 35 c.val c'.val).run Try.prog W = .ok (decide (c = c')) W := by
  rw [run_equalIn_struct W (d + 2) 35 _ _ (by kernel_rfl) (by kernel_rfl)]
  simp only [Program.fieldsOf, Try.underlying35]
  simp [Op.eqFields, q0, q1, q3, q6, q7, q8, q9, q10, q11, q12, q1i, q2i, eqI, eqU, eqB, eqRg, eqPm]
  by_cases e : c = c'
  · subst e
    simp
  · rw [decide_eq_false e]
    obtain ⟨c0, c1, c2, c3, c4, c5, c6, c7, c8, c9, c10, c11, c12⟩ := c
    obtain ⟨d0, d1, d2, d3, d4, d5, d6, d7, d8, d9, d10, d11, d12⟩ := c'
    simp only [Cl.mk.injEq, not_and] at e
    simp only
    repeat (first | rfl | (split; (first | rfl | skip)))
    all_goals simp_all
theorem eqX (c c' : Cl) (W : World) : (binOp .eql 35 c.val c'.val).run Try.prog W = .ok (.bool (decide (c = c'))) W := by
  have := equalX 9997 c c' W
  simp only [binOp, Op.equal, Sem.run_bind]
  rw [show Op.maxDepth = 9997 + 3 from rfl, this]; rfl
theorem neX (c c' : Cl) (W : World) : (binOp .neq 35 c.val c'.val).run Try.prog W = .ok (.bool (!decide (c = c'))) W := by
  have := equalX 9997 c c' W
  simp only [binOp, Op.equal, Sem.run_bind]
  rw [show Op.maxDepth = 9997 + 3 from rfl, this]; rfl
end Go.Proofs.Ytccbacjiiffheaa
