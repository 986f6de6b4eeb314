/- The translations' store: a call of the laws on no lines. -/
import Derived.Test.YtihedjlcjkbjfaaU1
namespace Go.Proofs.Ytihedjlcjkbjfaa
open Go.ChangeShapes Go.WideShapes Go.ChangeAt Go.RowKit Go.Maps
set_option linter.unusedSimpArgs false
set_option linter.unusedVariables false
set_option maxRecDepth 8000

/-- a call -/
def doesL (T : Nat → Ln) (k a c : Int) (l : Ln) : Nat → Ln :=
  if k = 1 then (if (0 ≤ a ∧ a < 2) ∧ l.ok = true then fillT T a l else T)
  else if k = 2 then (if (0 ≤ a ∧ a < 8) ∧ (0 ≤ c ∧ c < 2) then evictT T (2 * a.toNat + c.toNat) else T)
  else if k = 3 then dropT T (fun l => l.fits a c) 16
  else if k = 4 then dropT T (fun l => l.t == a && !l.g) 16
  else if k = 5 then dropT T (fun l => !(!(a == 0)) || !l.g) 16
  else T
set_option maxHeartbeats 4000000 in
theorem does1 (b : Nat) (T : Nat → Ln) (a c : Int) (v : Bool) (t p f : Int) (lw lu lx g d : Bool) (w : World) (h : IsTlb w b T) :
    Calls Try.prog 22 #[.pointer (some ⟨b, 0, none⟩), .slice none 0 0, .agg #[.int .i64 1, .int .i64 a, .int .i64 c, .bool v, .int .i64 t, .int .i64 p, .int .i64 f, .bool lw, .bool lu, .bool lx, .bool g, .bool d]] w fun e w' => (∃ r, e = .returned r) ∧ IsTlb w' b (doesL T 1 a c ⟨v, t, p, f, lw, lu, lx, g, d⟩) ∧ w.grownBy w' (some b) := by
  have HT : Hid (IsTlb w b T) := h
  have hb := h.2.2
  unfold doesL
  rw [if_pos rfl]
  clear h
  by_cases k0 : a < 0
  · have d0 : decide (a < 0) = true := by simp [k0]
    have FI : Hid (∀ W : World, Calls Try.prog 33 #[.pointer (some ⟨b, 0, none⟩), .int .i64 a, .agg #[.bool v, .int .i64 t, .int .i64 p, .int .i64 f, .bool lw, .bool lu, .bool lx, .bool g, .bool d]] W fun e w' => e = .returned (.int .i64 1) ∧ Below W.heap.size W w') := fun W => fill_way b ⟨v, t, p, f, lw, lu, lx, g, d⟩ a (Or.inl k0) W
    rw [if_neg (by omega)]
    go_enter Try.func22, Try.ntmps22
    go_wp2_with fail
    refine (FI.out _).mono ?_
    rintro e u1 ⟨rfl, hb1⟩
    have x0 : u1.cell? ⟨w.heap.size, 0, none⟩ = some (.int .i64 1) := (hb1.cell (p := ⟨w.heap.size, 0, none⟩) (by simp)).trans (by simp)
    have x1 : u1.cell? ⟨w.heap.size, 1, none⟩ = some (.int .i64 a) := (hb1.cell (p := ⟨w.heap.size, 1, none⟩) (by simp)).trans (by simp)
    have x2 : u1.cell? ⟨w.heap.size, 2, none⟩ = some (.int .i64 c) := (hb1.cell (p := ⟨w.heap.size, 2, none⟩) (by simp)).trans (by simp)
    have x3 : u1.cell? ⟨w.heap.size, 3, none⟩ = some (.bool v) := (hb1.cell (p := ⟨w.heap.size, 3, none⟩) (by simp)).trans (by simp)
    have x4 : u1.cell? ⟨w.heap.size, 4, none⟩ = some (.int .i64 t) := (hb1.cell (p := ⟨w.heap.size, 4, none⟩) (by simp)).trans (by simp)
    have x5 : u1.cell? ⟨w.heap.size, 5, none⟩ = some (.int .i64 p) := (hb1.cell (p := ⟨w.heap.size, 5, none⟩) (by simp)).trans (by simp)
    have x6 : u1.cell? ⟨w.heap.size, 6, none⟩ = some (.int .i64 f) := (hb1.cell (p := ⟨w.heap.size, 6, none⟩) (by simp)).trans (by simp)
    have x7 : u1.cell? ⟨w.heap.size, 7, none⟩ = some (.bool lw) := (hb1.cell (p := ⟨w.heap.size, 7, none⟩) (by simp)).trans (by simp)
    have x8 : u1.cell? ⟨w.heap.size, 8, none⟩ = some (.bool lu) := (hb1.cell (p := ⟨w.heap.size, 8, none⟩) (by simp)).trans (by simp)
    have x9 : u1.cell? ⟨w.heap.size, 9, none⟩ = some (.bool lx) := (hb1.cell (p := ⟨w.heap.size, 9, none⟩) (by simp)).trans (by simp)
    have x10 : u1.cell? ⟨w.heap.size, 10, none⟩ = some (.bool g) := (hb1.cell (p := ⟨w.heap.size, 10, none⟩) (by simp)).trans (by simp)
    have x11 : u1.cell? ⟨w.heap.size, 11, none⟩ = some (.bool d) := (hb1.cell (p := ⟨w.heap.size, 11, none⟩) (by simp)).trans (by simp)
    have lx1 : w.heap.size < u1.heap.size := Nat.lt_of_lt_of_le (by simp) hb1.size
    have B1 : Hid (Below w.heap.size w u1) := below_then (Go.Joins.below_alloc1 _ _) hb1
    clear hb1
    go_wp2_with fail
    go_returns
    exact ⟨⟨_, rfl⟩, HT.out.below B1.out, grown_of_below B1.out _⟩
  have d0 : decide (a < 0) = false := by simp; omega
  by_cases k1 : 1 < a
  · have d1 : decide (1 < a) = true := by simp [k1]
    have FI : Hid (∀ W : World, Calls Try.prog 33 #[.pointer (some ⟨b, 0, none⟩), .int .i64 a, .agg #[.bool v, .int .i64 t, .int .i64 p, .int .i64 f, .bool lw, .bool lu, .bool lx, .bool g, .bool d]] W fun e w' => e = .returned (.int .i64 1) ∧ Below W.heap.size W w') := fun W => fill_way b ⟨v, t, p, f, lw, lu, lx, g, d⟩ a (Or.inr (by omega)) W
    rw [if_neg (by omega)]
    go_enter Try.func22, Try.ntmps22
    go_wp2_with fail
    refine (FI.out _).mono ?_
    rintro e u1 ⟨rfl, hb1⟩
    have x0 : u1.cell? ⟨w.heap.size, 0, none⟩ = some (.int .i64 1) := (hb1.cell (p := ⟨w.heap.size, 0, none⟩) (by simp)).trans (by simp)
    have x1 : u1.cell? ⟨w.heap.size, 1, none⟩ = some (.int .i64 a) := (hb1.cell (p := ⟨w.heap.size, 1, none⟩) (by simp)).trans (by simp)
    have x2 : u1.cell? ⟨w.heap.size, 2, none⟩ = some (.int .i64 c) := (hb1.cell (p := ⟨w.heap.size, 2, none⟩) (by simp)).trans (by simp)
    have x3 : u1.cell? ⟨w.heap.size, 3, none⟩ = some (.bool v) := (hb1.cell (p := ⟨w.heap.size, 3, none⟩) (by simp)).trans (by simp)
    have x4 : u1.cell? ⟨w.heap.size, 4, none⟩ = some (.int .i64 t) := (hb1.cell (p := ⟨w.heap.size, 4, none⟩) (by simp)).trans (by simp)
    have x5 : u1.cell? ⟨w.heap.size, 5, none⟩ = some (.int .i64 p) := (hb1.cell (p := ⟨w.heap.size, 5, none⟩) (by simp)).trans (by simp)
    have x6 : u1.cell? ⟨w.heap.size, 6, none⟩ = some (.int .i64 f) := (hb1.cell (p := ⟨w.heap.size, 6, none⟩) (by simp)).trans (by simp)
    have x7 : u1.cell? ⟨w.heap.size, 7, none⟩ = some (.bool lw) := (hb1.cell (p := ⟨w.heap.size, 7, none⟩) (by simp)).trans (by simp)
    have x8 : u1.cell? ⟨w.heap.size, 8, none⟩ = some (.bool lu) := (hb1.cell (p := ⟨w.heap.size, 8, none⟩) (by simp)).trans (by simp)
    have x9 : u1.cell? ⟨w.heap.size, 9, none⟩ = some (.bool lx) := (hb1.cell (p := ⟨w.heap.size, 9, none⟩) (by simp)).trans (by simp)
    have x10 : u1.cell? ⟨w.heap.size, 10, none⟩ = some (.bool g) := (hb1.cell (p := ⟨w.heap.size, 10, none⟩) (by simp)).trans (by simp)
    have x11 : u1.cell? ⟨w.heap.size, 11, none⟩ = some (.bool d) := (hb1.cell (p := ⟨w.heap.size, 11, none⟩) (by simp)).trans (by simp)
    have lx1 : w.heap.size < u1.heap.size := Nat.lt_of_lt_of_le (by simp) hb1.size
    have B1 : Hid (Below w.heap.size w u1) := below_then (Go.Joins.below_alloc1 _ _) hb1
    clear hb1
    go_wp2_with fail
    go_returns
    exact ⟨⟨_, rfl⟩, HT.out.below B1.out, grown_of_below B1.out _⟩
  have d1 : decide (1 < a) = false := by simp; omega
  by_cases k2 : t < 0
  · have d2 : decide (t < 0) = true := by simp [k2]
    have nok : Ln.ok ⟨v, t, p, f, lw, lu, lx, g, d⟩ = false := by unfold Ln.ok; simp; try omega
    have FI : Hid (∀ W : World, Calls Try.prog 33 #[.pointer (some ⟨b, 0, none⟩), .int .i64 a, .agg #[.bool v, .int .i64 t, .int .i64 p, .int .i64 f, .bool lw, .bool lu, .bool lx, .bool g, .bool d]] W fun e w' => e = .returned (.int .i64 1) ∧ Below W.heap.size W w') := fun W => fill_form b ⟨v, t, p, f, lw, lu, lx, g, d⟩ a (by omega) (by omega) nok W
    rw [if_neg (by rw [nok]; simp)]
    go_enter Try.func22, Try.ntmps22
    go_wp2_with fail
    refine (FI.out _).mono ?_
    rintro e u1 ⟨rfl, hb1⟩
    have x0 : u1.cell? ⟨w.heap.size, 0, none⟩ = some (.int .i64 1) := (hb1.cell (p := ⟨w.heap.size, 0, none⟩) (by simp)).trans (by simp)
    have x1 : u1.cell? ⟨w.heap.size, 1, none⟩ = some (.int .i64 a) := (hb1.cell (p := ⟨w.heap.size, 1, none⟩) (by simp)).trans (by simp)
    have x2 : u1.cell? ⟨w.heap.size, 2, none⟩ = some (.int .i64 c) := (hb1.cell (p := ⟨w.heap.size, 2, none⟩) (by simp)).trans (by simp)
    have x3 : u1.cell? ⟨w.heap.size, 3, none⟩ = some (.bool v) := (hb1.cell (p := ⟨w.heap.size, 3, none⟩) (by simp)).trans (by simp)
    have x4 : u1.cell? ⟨w.heap.size, 4, none⟩ = some (.int .i64 t) := (hb1.cell (p := ⟨w.heap.size, 4, none⟩) (by simp)).trans (by simp)
    have x5 : u1.cell? ⟨w.heap.size, 5, none⟩ = some (.int .i64 p) := (hb1.cell (p := ⟨w.heap.size, 5, none⟩) (by simp)).trans (by simp)
    have x6 : u1.cell? ⟨w.heap.size, 6, none⟩ = some (.int .i64 f) := (hb1.cell (p := ⟨w.heap.size, 6, none⟩) (by simp)).trans (by simp)
    have x7 : u1.cell? ⟨w.heap.size, 7, none⟩ = some (.bool lw) := (hb1.cell (p := ⟨w.heap.size, 7, none⟩) (by simp)).trans (by simp)
    have x8 : u1.cell? ⟨w.heap.size, 8, none⟩ = some (.bool lu) := (hb1.cell (p := ⟨w.heap.size, 8, none⟩) (by simp)).trans (by simp)
    have x9 : u1.cell? ⟨w.heap.size, 9, none⟩ = some (.bool lx) := (hb1.cell (p := ⟨w.heap.size, 9, none⟩) (by simp)).trans (by simp)
    have x10 : u1.cell? ⟨w.heap.size, 10, none⟩ = some (.bool g) := (hb1.cell (p := ⟨w.heap.size, 10, none⟩) (by simp)).trans (by simp)
    have x11 : u1.cell? ⟨w.heap.size, 11, none⟩ = some (.bool d) := (hb1.cell (p := ⟨w.heap.size, 11, none⟩) (by simp)).trans (by simp)
    have lx1 : w.heap.size < u1.heap.size := Nat.lt_of_lt_of_le (by simp) hb1.size
    have B1 : Hid (Below w.heap.size w u1) := below_then (Go.Joins.below_alloc1 _ _) hb1
    clear hb1
    go_wp2_with fail
    go_returns
    exact ⟨⟨_, rfl⟩, HT.out.below B1.out, grown_of_below B1.out _⟩
  have d2 : decide (t < 0) = false := by simp; omega
  by_cases k3 : 4095 < t
  · have d3 : decide (4095 < t) = true := by simp [k3]
    have nok : Ln.ok ⟨v, t, p, f, lw, lu, lx, g, d⟩ = false := by unfold Ln.ok; simp; try omega
    have FI : Hid (∀ W : World, Calls Try.prog 33 #[.pointer (some ⟨b, 0, none⟩), .int .i64 a, .agg #[.bool v, .int .i64 t, .int .i64 p, .int .i64 f, .bool lw, .bool lu, .bool lx, .bool g, .bool d]] W fun e w' => e = .returned (.int .i64 1) ∧ Below W.heap.size W w') := fun W => fill_form b ⟨v, t, p, f, lw, lu, lx, g, d⟩ a (by omega) (by omega) nok W
    rw [if_neg (by rw [nok]; simp)]
    go_enter Try.func22, Try.ntmps22
    go_wp2_with fail
    refine (FI.out _).mono ?_
    rintro e u1 ⟨rfl, hb1⟩
    have x0 : u1.cell? ⟨w.heap.size, 0, none⟩ = some (.int .i64 1) := (hb1.cell (p := ⟨w.heap.size, 0, none⟩) (by simp)).trans (by simp)
    have x1 : u1.cell? ⟨w.heap.size, 1, none⟩ = some (.int .i64 a) := (hb1.cell (p := ⟨w.heap.size, 1, none⟩) (by simp)).trans (by simp)
    have x2 : u1.cell? ⟨w.heap.size, 2, none⟩ = some (.int .i64 c) := (hb1.cell (p := ⟨w.heap.size, 2, none⟩) (by simp)).trans (by simp)
    have x3 : u1.cell? ⟨w.heap.size, 3, none⟩ = some (.bool v) := (hb1.cell (p := ⟨w.heap.size, 3, none⟩) (by simp)).trans (by simp)
    have x4 : u1.cell? ⟨w.heap.size, 4, none⟩ = some (.int .i64 t) := (hb1.cell (p := ⟨w.heap.size, 4, none⟩) (by simp)).trans (by simp)
    have x5 : u1.cell? ⟨w.heap.size, 5, none⟩ = some (.int .i64 p) := (hb1.cell (p := ⟨w.heap.size, 5, none⟩) (by simp)).trans (by simp)
    have x6 : u1.cell? ⟨w.heap.size, 6, none⟩ = some (.int .i64 f) := (hb1.cell (p := ⟨w.heap.size, 6, none⟩) (by simp)).trans (by simp)
    have x7 : u1.cell? ⟨w.heap.size, 7, none⟩ = some (.bool lw) := (hb1.cell (p := ⟨w.heap.size, 7, none⟩) (by simp)).trans (by simp)
    have x8 : u1.cell? ⟨w.heap.size, 8, none⟩ = some (.bool lu) := (hb1.cell (p := ⟨w.heap.size, 8, none⟩) (by simp)).trans (by simp)
    have x9 : u1.cell? ⟨w.heap.size, 9, none⟩ = some (.bool lx) := (hb1.cell (p := ⟨w.heap.size, 9, none⟩) (by simp)).trans (by simp)
    have x10 : u1.cell? ⟨w.heap.size, 10, none⟩ = some (.bool g) := (hb1.cell (p := ⟨w.heap.size, 10, none⟩) (by simp)).trans (by simp)
    have x11 : u1.cell? ⟨w.heap.size, 11, none⟩ = some (.bool d) := (hb1.cell (p := ⟨w.heap.size, 11, none⟩) (by simp)).trans (by simp)
    have lx1 : w.heap.size < u1.heap.size := Nat.lt_of_lt_of_le (by simp) hb1.size
    have B1 : Hid (Below w.heap.size w u1) := below_then (Go.Joins.below_alloc1 _ _) hb1
    clear hb1
    go_wp2_with fail
    go_returns
    exact ⟨⟨_, rfl⟩, HT.out.below B1.out, grown_of_below B1.out _⟩
  have d3 : decide (4095 < t) = false := by simp; omega
  by_cases k4 : p < 0
  · have d4 : decide (p < 0) = true := by simp [k4]
    have nok : Ln.ok ⟨v, t, p, f, lw, lu, lx, g, d⟩ = false := by unfold Ln.ok; simp; try omega
    have FI : Hid (∀ W : World, Calls Try.prog 33 #[.pointer (some ⟨b, 0, none⟩), .int .i64 a, .agg #[.bool v, .int .i64 t, .int .i64 p, .int .i64 f, .bool lw, .bool lu, .bool lx, .bool g, .bool d]] W fun e w' => e = .returned (.int .i64 1) ∧ Below W.heap.size W w') := fun W => fill_form b ⟨v, t, p, f, lw, lu, lx, g, d⟩ a (by omega) (by omega) nok W
    rw [if_neg (by rw [nok]; simp)]
    go_enter Try.func22, Try.ntmps22
    go_wp2_with fail
    refine (FI.out _).mono ?_
    rintro e u1 ⟨rfl, hb1⟩
    have x0 : u1.cell? ⟨w.heap.size, 0, none⟩ = some (.int .i64 1) := (hb1.cell (p := ⟨w.heap.size, 0, none⟩) (by simp)).trans (by simp)
    have x1 : u1.cell? ⟨w.heap.size, 1, none⟩ = some (.int .i64 a) := (hb1.cell (p := ⟨w.heap.size, 1, none⟩) (by simp)).trans (by simp)
    have x2 : u1.cell? ⟨w.heap.size, 2, none⟩ = some (.int .i64 c) := (hb1.cell (p := ⟨w.heap.size, 2, none⟩) (by simp)).trans (by simp)
    have x3 : u1.cell? ⟨w.heap.size, 3, none⟩ = some (.bool v) := (hb1.cell (p := ⟨w.heap.size, 3, none⟩) (by simp)).trans (by simp)
    have x4 : u1.cell? ⟨w.heap.size, 4, none⟩ = some (.int .i64 t) := (hb1.cell (p := ⟨w.heap.size, 4, none⟩) (by simp)).trans (by simp)
    have x5 : u1.cell? ⟨w.heap.size, 5, none⟩ = some (.int .i64 p) := (hb1.cell (p := ⟨w.heap.size, 5, none⟩) (by simp)).trans (by simp)
    have x6 : u1.cell? ⟨w.heap.size, 6, none⟩ = some (.int .i64 f) := (hb1.cell (p := ⟨w.heap.size, 6, none⟩) (by simp)).trans (by simp)
    have x7 : u1.cell? ⟨w.heap.size, 7, none⟩ = some (.bool lw) := (hb1.cell (p := ⟨w.heap.size, 7, none⟩) (by simp)).trans (by simp)
    have x8 : u1.cell? ⟨w.heap.size, 8, none⟩ = some (.bool lu) := (hb1.cell (p := ⟨w.heap.size, 8, none⟩) (by simp)).trans (by simp)
    have x9 : u1.cell? ⟨w.heap.size, 9, none⟩ = some (.bool lx) := (hb1.cell (p := ⟨w.heap.size, 9, none⟩) (by simp)).trans (by simp)
    have x10 : u1.cell? ⟨w.heap.size, 10, none⟩ = some (.bool g) := (hb1.cell (p := ⟨w.heap.size, 10, none⟩) (by simp)).trans (by simp)
    have x11 : u1.cell? ⟨w.heap.size, 11, none⟩ = some (.bool d) := (hb1.cell (p := ⟨w.heap.size, 11, none⟩) (by simp)).trans (by simp)
    have lx1 : w.heap.size < u1.heap.size := Nat.lt_of_lt_of_le (by simp) hb1.size
    have B1 : Hid (Below w.heap.size w u1) := below_then (Go.Joins.below_alloc1 _ _) hb1
    clear hb1
    go_wp2_with fail
    go_returns
    exact ⟨⟨_, rfl⟩, HT.out.below B1.out, grown_of_below B1.out _⟩
  have d4 : decide (p < 0) = false := by simp; omega
  by_cases k5 : f < 0
  · have d5 : decide (f < 0) = true := by simp [k5]
    have nok : Ln.ok ⟨v, t, p, f, lw, lu, lx, g, d⟩ = false := by unfold Ln.ok; simp; try omega
    have FI : Hid (∀ W : World, Calls Try.prog 33 #[.pointer (some ⟨b, 0, none⟩), .int .i64 a, .agg #[.bool v, .int .i64 t, .int .i64 p, .int .i64 f, .bool lw, .bool lu, .bool lx, .bool g, .bool d]] W fun e w' => e = .returned (.int .i64 1) ∧ Below W.heap.size W w') := fun W => fill_form b ⟨v, t, p, f, lw, lu, lx, g, d⟩ a (by omega) (by omega) nok W
    rw [if_neg (by rw [nok]; simp)]
    go_enter Try.func22, Try.ntmps22
    go_wp2_with fail
    refine (FI.out _).mono ?_
    rintro e u1 ⟨rfl, hb1⟩
    have x0 : u1.cell? ⟨w.heap.size, 0, none⟩ = some (.int .i64 1) := (hb1.cell (p := ⟨w.heap.size, 0, none⟩) (by simp)).trans (by simp)
    have x1 : u1.cell? ⟨w.heap.size, 1, none⟩ = some (.int .i64 a) := (hb1.cell (p := ⟨w.heap.size, 1, none⟩) (by simp)).trans (by simp)
    have x2 : u1.cell? ⟨w.heap.size, 2, none⟩ = some (.int .i64 c) := (hb1.cell (p := ⟨w.heap.size, 2, none⟩) (by simp)).trans (by simp)
    have x3 : u1.cell? ⟨w.heap.size, 3, none⟩ = some (.bool v) := (hb1.cell (p := ⟨w.heap.size, 3, none⟩) (by simp)).trans (by simp)
    have x4 : u1.cell? ⟨w.heap.size, 4, none⟩ = some (.int .i64 t) := (hb1.cell (p := ⟨w.heap.size, 4, none⟩) (by simp)).trans (by simp)
    have x5 : u1.cell? ⟨w.heap.size, 5, none⟩ = some (.int .i64 p) := (hb1.cell (p := ⟨w.heap.size, 5, none⟩) (by simp)).trans (by simp)
    have x6 : u1.cell? ⟨w.heap.size, 6, none⟩ = some (.int .i64 f) := (hb1.cell (p := ⟨w.heap.size, 6, none⟩) (by simp)).trans (by simp)
    have x7 : u1.cell? ⟨w.heap.size, 7, none⟩ = some (.bool lw) := (hb1.cell (p := ⟨w.heap.size, 7, none⟩) (by simp)).trans (by simp)
    have x8 : u1.cell? ⟨w.heap.size, 8, none⟩ = some (.bool lu) := (hb1.cell (p := ⟨w.heap.size, 8, none⟩) (by simp)).trans (by simp)
    have x9 : u1.cell? ⟨w.heap.size, 9, none⟩ = some (.bool lx) := (hb1.cell (p := ⟨w.heap.size, 9, none⟩) (by simp)).trans (by simp)
    have x10 : u1.cell? ⟨w.heap.size, 10, none⟩ = some (.bool g) := (hb1.cell (p := ⟨w.heap.size, 10, none⟩) (by simp)).trans (by simp)
    have x11 : u1.cell? ⟨w.heap.size, 11, none⟩ = some (.bool d) := (hb1.cell (p := ⟨w.heap.size, 11, none⟩) (by simp)).trans (by simp)
    have lx1 : w.heap.size < u1.heap.size := Nat.lt_of_lt_of_le (by simp) hb1.size
    have B1 : Hid (Below w.heap.size w u1) := below_then (Go.Joins.below_alloc1 _ _) hb1
    clear hb1
    go_wp2_with fail
    go_returns
    exact ⟨⟨_, rfl⟩, HT.out.below B1.out, grown_of_below B1.out _⟩
  have d5 : decide (f < 0) = false := by simp; omega
  cases v
  · -- not valid
    have nok : Ln.ok ⟨false, t, p, f, lw, lu, lx, g, d⟩ = false := by unfold Ln.ok; simp; try omega
    have FI : Hid (∀ W : World, Calls Try.prog 33 #[.pointer (some ⟨b, 0, none⟩), .int .i64 a, .agg #[.bool false, .int .i64 t, .int .i64 p, .int .i64 f, .bool lw, .bool lu, .bool lx, .bool g, .bool d]] W fun e w' => e = .returned (.int .i64 1) ∧ Below W.heap.size W w') := fun W => fill_form b ⟨false, t, p, f, lw, lu, lx, g, d⟩ a (by omega) (by omega) nok W
    rw [if_neg (by rw [nok]; simp)]
    go_enter Try.func22, Try.ntmps22
    go_wp2_with fail
    refine (FI.out _).mono ?_
    rintro e u1 ⟨rfl, hb1⟩
    have x0 : u1.cell? ⟨w.heap.size, 0, none⟩ = some (.int .i64 1) := (hb1.cell (p := ⟨w.heap.size, 0, none⟩) (by simp)).trans (by simp)
    have x1 : u1.cell? ⟨w.heap.size, 1, none⟩ = some (.int .i64 a) := (hb1.cell (p := ⟨w.heap.size, 1, none⟩) (by simp)).trans (by simp)
    have x2 : u1.cell? ⟨w.heap.size, 2, none⟩ = some (.int .i64 c) := (hb1.cell (p := ⟨w.heap.size, 2, none⟩) (by simp)).trans (by simp)
    have x3 : u1.cell? ⟨w.heap.size, 3, none⟩ = some (.bool false) := (hb1.cell (p := ⟨w.heap.size, 3, none⟩) (by simp)).trans (by simp)
    have x4 : u1.cell? ⟨w.heap.size, 4, none⟩ = some (.int .i64 t) := (hb1.cell (p := ⟨w.heap.size, 4, none⟩) (by simp)).trans (by simp)
    have x5 : u1.cell? ⟨w.heap.size, 5, none⟩ = some (.int .i64 p) := (hb1.cell (p := ⟨w.heap.size, 5, none⟩) (by simp)).trans (by simp)
    have x6 : u1.cell? ⟨w.heap.size, 6, none⟩ = some (.int .i64 f) := (hb1.cell (p := ⟨w.heap.size, 6, none⟩) (by simp)).trans (by simp)
    have x7 : u1.cell? ⟨w.heap.size, 7, none⟩ = some (.bool lw) := (hb1.cell (p := ⟨w.heap.size, 7, none⟩) (by simp)).trans (by simp)
    have x8 : u1.cell? ⟨w.heap.size, 8, none⟩ = some (.bool lu) := (hb1.cell (p := ⟨w.heap.size, 8, none⟩) (by simp)).trans (by simp)
    have x9 : u1.cell? ⟨w.heap.size, 9, none⟩ = some (.bool lx) := (hb1.cell (p := ⟨w.heap.size, 9, none⟩) (by simp)).trans (by simp)
    have x10 : u1.cell? ⟨w.heap.size, 10, none⟩ = some (.bool g) := (hb1.cell (p := ⟨w.heap.size, 10, none⟩) (by simp)).trans (by simp)
    have x11 : u1.cell? ⟨w.heap.size, 11, none⟩ = some (.bool d) := (hb1.cell (p := ⟨w.heap.size, 11, none⟩) (by simp)).trans (by simp)
    have lx1 : w.heap.size < u1.heap.size := Nat.lt_of_lt_of_le (by simp) hb1.size
    have B1 : Hid (Below w.heap.size w u1) := below_then (Go.Joins.below_alloc1 _ _) hb1
    clear hb1
    go_wp2_with fail
    go_returns
    exact ⟨⟨_, rfl⟩, HT.out.below B1.out, grown_of_below B1.out _⟩
  have ok : Ln.ok ⟨true, t, p, f, lw, lu, lx, g, d⟩ = true := by unfold Ln.ok; simp; omega
  rw [if_pos ⟨by omega, ok⟩]
  obtain ⟨y, rfl⟩ : ∃ y : Nat, a = y := ⟨a.toNat, by omega⟩
  obtain ⟨s, hs⟩ : ∃ s : Nat, p % 8 = (s : Int) := ⟨(p % 8).toNat, by omega⟩
  have FI : Hid (∀ W : World, IsTlb W b T → Calls Try.prog 33 #[.pointer (some ⟨b, 0, none⟩), .int .i64 y, .agg #[.bool true, .int .i64 t, .int .i64 p, .int .i64 f, .bool lw, .bool lu, .bool lx, .bool g, .bool d]] W fun e w' => e = .returned (.int .i64 0) ∧ IsTlb w' b (fillT T y ⟨true, t, p, f, lw, lu, lx, g, d⟩) ∧ W.grownBy w' (some b)) := fun W h => fill_ok b T ⟨true, t, p, f, lw, lu, lx, g, d⟩ y s (by omega) ok (by show 0 ≤ p; omega) hs W h
  have TO : Hid (∀ W : World, Calls Try.prog 24 #[.agg #[.bool true, .int .i64 t, .int .i64 p, .int .i64 f, .bool lw, .bool lu, .bool lx, .bool g, .bool d], .int .i64 y] W fun e w' => e = .returned (.agg #[.int .i64 y, .int .i64 t, .int .i64 p, .int .i64 f, .bool lw, .bool lu, .bool lx, .bool g, .bool d]) ∧ Below W.heap.size W w') := fun W => told_any true t p f lw lu lx g d y W
  have RF : Hid (∀ W : World, Calls Try.prog 34 #[.slice none 0 0, .agg #[.int .i64 y, .int .i64 t, .int .i64 p, .int .i64 f, .bool lw, .bool lu, .bool lx, .bool g, .bool d]] W fun e w' => (∃ v, e = .returned v) ∧ Below W.heap.size W w') := fun W => rfill_nil y t p f lw lu lx g d W
  generalize fillT T y ⟨true, t, p, f, lw, lu, lx, g, d⟩ = T2 at FI ⊢
  clear hs ok
  go_enter Try.func22, Try.ntmps22
  go_wp2_with fail
  refine (FI.out _ (HT.out.below (Go.Joins.below_alloc1 _ _))).mono ?_
  rintro e u1 ⟨rfl, h1, h2⟩
  have x0 : u1.cell? ⟨w.heap.size, 0, none⟩ = some (.int .i64 1) := cell_grown h2 (by simp) (by omega) (by simp)
  have x1 : u1.cell? ⟨w.heap.size, 1, none⟩ = some (.int .i64 y) := cell_grown h2 (by simp) (by omega) (by simp)
  have x2 : u1.cell? ⟨w.heap.size, 2, none⟩ = some (.int .i64 c) := cell_grown h2 (by simp) (by omega) (by simp)
  have x3 : u1.cell? ⟨w.heap.size, 3, none⟩ = some (.bool true) := cell_grown h2 (by simp) (by omega) (by simp)
  have x4 : u1.cell? ⟨w.heap.size, 4, none⟩ = some (.int .i64 t) := cell_grown h2 (by simp) (by omega) (by simp)
  have x5 : u1.cell? ⟨w.heap.size, 5, none⟩ = some (.int .i64 p) := cell_grown h2 (by simp) (by omega) (by simp)
  have x6 : u1.cell? ⟨w.heap.size, 6, none⟩ = some (.int .i64 f) := cell_grown h2 (by simp) (by omega) (by simp)
  have x7 : u1.cell? ⟨w.heap.size, 7, none⟩ = some (.bool lw) := cell_grown h2 (by simp) (by omega) (by simp)
  have x8 : u1.cell? ⟨w.heap.size, 8, none⟩ = some (.bool lu) := cell_grown h2 (by simp) (by omega) (by simp)
  have x9 : u1.cell? ⟨w.heap.size, 9, none⟩ = some (.bool lx) := cell_grown h2 (by simp) (by omega) (by simp)
  have x10 : u1.cell? ⟨w.heap.size, 10, none⟩ = some (.bool g) := cell_grown h2 (by simp) (by omega) (by simp)
  have x11 : u1.cell? ⟨w.heap.size, 11, none⟩ = some (.bool d) := cell_grown h2 (by simp) (by omega) (by simp)
  have lx1 : w.heap.size < u1.heap.size := Nat.lt_of_lt_of_le (by simp) h2.size
  have T1 : Hid (IsTlb u1 b T2) := h1
  have G1 : Hid (w.grownBy u1 (some b)) := grown_trans (grown_alloc _ _ _) h2
  clear h1 h2
  go_wp2_with fail
  refine (TO.out _).mono ?_
  rintro e u2 ⟨rfl, hb2⟩
  have T3 : Hid (IsTlb u2 b T2) := T1.out.below hb2
  have G3 : Hid (w.grownBy u2 (some b)) := grown_trans G1.out (grown_of_below hb2 _)
  clear hb2 x0 x1 x2 x3 x4 x5 x6 x7 x8 x9 x10 x11
  go_wp2_with fail
  refine (RF.out _).mono ?_
  rintro e u3 ⟨⟨r, rfl⟩, hb3⟩
  have T4 : Hid (IsTlb u3 b T2) := T3.out.below hb3
  have G4 : Hid (w.grownBy u3 (some b)) := grown_trans G3.out (grown_of_below hb3 _)
  clear hb3
  go_wp2_with fail
  go_returns
  exact ⟨⟨_, rfl⟩, T4.out, G4.out⟩
end Go.Proofs.Ytihedjlcjkbjfaa
