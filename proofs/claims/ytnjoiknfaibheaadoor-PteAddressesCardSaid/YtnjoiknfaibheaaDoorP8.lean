/- Four places held against four others. -/
import Derived.Test.YtnjoiknfaibheaaDoorP5
namespace Go.Proofs.YtnjoiknfaibheaaDoor
open Go.ChangeShapes Go.WideShapes Go.ChangeAt Go.RowKit
set_option linter.unusedSimpArgs false
set_option linter.unusedVariables false

theorem int_size (w : World) : (sizeOf 3).run Tryd.prog w = .ok 1 w := by kernel_rfl
theorem eq_int (k : Nat) (a b : Int) (w : World) : (Op.equalIn (k + 1) 3 (.int .i64 a) (.int .i64 b)).run Tryd.prog w = .ok (a == b) w := run_equalIn_int w k 3 .i64 .i64 a b Tryd.underlying3
set_option maxHeartbeats 400000 in
theorem eq4 (a b c d a' b' c' d' : Int) (w : World) : (Op.equalIn 10000 35 (.agg #[.int .i64 a, .int .i64 b, .int .i64 c, .int .i64 d]) (.agg #[.int .i64 a', .int .i64 b', .int .i64 c', .int .i64 d'])).run Tryd.prog w = .ok (a == a' && (b == b' && (c == c' && d == d'))) w := by
  rw [show (10000 : Nat) = 9998 + 2 from rfl, Op.equalIn]
  simp only [Sem.run_bind, run_underlying Tryd.underlying35, Result.andThen_ok, int_size, Std.Legacy.Range.forIn_eq_forIn_range', Std.Legacy.Range.size, Nat.sub_zero, Nat.add_sub_cancel, Nat.div_one]
  have hr : List.range' 0 4 1 = [0, 1, 2, 3] := rfl
  have p0 : ∀ (x y z v : Value), (part 3 #[x, y, z, v] (0 * 1)).run Tryd.prog w = .ok x w := fun x y z v => by kernel_rfl
  have p1 : ∀ (x y z v : Value), (part 3 #[x, y, z, v] (1 * 1)).run Tryd.prog w = .ok y w := fun x y z v => by kernel_rfl
  have p2 : ∀ (x y z v : Value), (part 3 #[x, y, z, v] (2 * 1)).run Tryd.prog w = .ok z w := fun x y z v => by kernel_rfl
  have p3 : ∀ (x y z v : Value), (part 3 #[x, y, z, v] (3 * 1)).run Tryd.prog w = .ok v w := fun x y z v => by kernel_rfl
  have q0 : ∀ (x y z v : Value), (part 3 #[x, y, z, v] 0).run Tryd.prog w = .ok x w := fun x y z v => by kernel_rfl
  have q1 : ∀ (x y z v : Value), (part 3 #[x, y, z, v] 1).run Tryd.prog w = .ok y w := fun x y z v => by kernel_rfl
  have q2 : ∀ (x y z v : Value), (part 3 #[x, y, z, v] 2).run Tryd.prog w = .ok z w := fun x y z v => by kernel_rfl
  have q3 : ∀ (x y z v : Value), (part 3 #[x, y, z, v] 3).run Tryd.prog w = .ok v w := fun x y z v => by kernel_rfl
  have e9 : ∀ x y : Int, (Op.equalIn 9999 3 (.int .i64 x) (.int .i64 y)).run Tryd.prog w = .ok (x == y) w := fun x y => eq_int 9998 x y w
  rw [hr]
  simp only [List.forIn_cons, List.forIn_nil, Sem.run_bind, p0, p1, p2, p3, Result.andThen_ok, eq_int 9998]
  by_cases h0 : a = a' <;> by_cases h1 : b = b' <;> by_cases h2 : c = c' <;> by_cases h3 : d = d' <;> simp [h0, h1, h2, h3, q0, q1, q2, q3, e9]
end Go.Proofs.YtnjoiknfaibheaaDoor
