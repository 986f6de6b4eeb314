/- The lines: a call of the laws, whichever, with the document's list. -/
import Derived.Test.YtihedjlcjkbjfaaV1
namespace Go.Proofs.Ytihedjlcjkbjfaa
open Go.ChangeShapes Go.WideShapes Go.ChangeAt Go.RowKit Go.Maps
set_option linter.unusedSimpArgs false
set_option linter.unusedVariables false
set_option maxRecDepth 8000

set_option maxHeartbeats 8000000 in
theorem rdoes_any (b : Nat) (T : Nat → Ln) (G : GoodL T) (base : Nat) (p0 : Option Addr) (c0 : Nat) (hbb : b < base) (k a c : Int) (v : Bool) (t p f : Int) (lw lu lx g d : Bool) (w : World) (h : IsTlb w b T) (hI : IsRl w base p0 (rowT T 16)) (hbw : base ≤ w.heap.size) :
    Calls Try.prog 22 #[.pointer (some ⟨b, 0, none⟩), .slice p0 (rowT T 16).length c0, .agg #[.int .i64 k, .int .i64 a, .int .i64 c, .bool v, .int .i64 t, .int .i64 p, .int .i64 f, .bool lw, .bool lu, .bool lx, .bool g, .bool d]] w fun e w' => (∃ p' c', e = .returned (.tuple #[.slice p' (rowT (doesL T k a c ⟨v, t, p, f, lw, lu, lx, g, d⟩) 16).length c', .bool true]) ∧ IsRl w' base p' (rowT (doesL T k a c ⟨v, t, p, f, lw, lu, lx, g, d⟩) 16)) ∧ IsTlb w' b (doesL T k a c ⟨v, t, p, f, lw, lu, lx, g, d⟩) ∧ w.grownBy w' (some b) := by
  by_cases q1 : k = 1
  · subst q1; exact rdoes1 b T G base p0 c0 hbb a c v t p f lw lu lx g d w h hI hbw
  have HT : Hid (IsTlb w b T) := h
  have HI : Hid (IsRl w base p0 (rowT T 16)) := hI
  have HG : Hid (GoodL T) := G
  have hb := h.2.2
  have RL16 : (rowT T 16).length ≤ 100 := by rw [row_len]; have := lines_len T 16; omega
  have WN : Hid (∀ (T2 : Nat → Ln) (x y z : Int), (x = 1 ∨ x = 2 ∨ x = 3 ∨ x = 4) → withoutR (rowT T 16) x y z = rowT T2 16 → ∀ (W : World), IsRl W base p0 (rowT T 16) → Calls Try.prog 36 #[.slice p0 (rowT T 16).length c0, .int .i64 x, .int .i64 y, .int .i64 z] W fun e w' => (∃ p' c', e = .returned (.slice p' (rowT T2 16).length c') ∧ IsRl w' W.heap.size p' (rowT T2 16)) ∧ Below W.heap.size W w') := fun T2 x y z hx hr W hi => by
    rw [← hr]
    exact (without_any base p0 c0 (rowT T 16) RL16 x y z hx W hi).mono fun e w' ⟨p', c', h1, h2, h3⟩ => ⟨⟨p', c', h1, h2⟩, h3⟩
  have b1 : (k == 1) = false := by simp [q1]
  unfold doesL
  rw [if_neg q1]
  clear h hI G
  by_cases q2 : k = 2
  · subst q2
    rw [if_pos rfl]
    by_cases k0 : a < 0
    · have d0 : decide (a < 0) = true := by simp [k0]
      have FI : Hid (∀ W : World, Calls Try.prog 35 #[.pointer (some ⟨b, 0, none⟩), .int .i64 a, .int .i64 c] W fun e w' => e = .returned (.int .i64 1) ∧ Below W.heap.size W w') := fun W => evict_bad b a c (by omega) W
      rw [if_neg (by omega)]
      obtain ⟨n0, hn0⟩ : ∃ n0, (rowT T 16).length = n0 := ⟨_, rfl⟩
      have HN0 : Hid ((rowT T 16).length = n0) := hn0
      rw [hn0]
      clear hn0
      go_enter Try.func22, Try.ntmps22
      go_wp2_with fail
      refine (FI.out _).mono ?_
      rintro e u1 ⟨rfl, hb1⟩
      have x0 : u1.cell? ⟨w.heap.size, 0, none⟩ = some (.int .i64 2) := (hb1.cell (p := ⟨w.heap.size, 0, none⟩) (by simp)).trans (by simp)
      have x1 : u1.cell? ⟨w.heap.size, 1, none⟩ = some (.int .i64 a) := (hb1.cell (p := ⟨w.heap.size, 1, none⟩) (by simp)).trans (by simp)
      have x2 : u1.cell? ⟨w.heap.size, 2, none⟩ = some (.int .i64 c) := (hb1.cell (p := ⟨w.heap.size, 2, none⟩) (by simp)).trans (by simp)
      have x3 : u1.cell? ⟨w.heap.size, 3, none⟩ = some (.bool v) := (hb1.cell (p := ⟨w.heap.size, 3, none⟩) (by simp)).trans (by simp)
      have x4 : u1.cell? ⟨w.heap.size, 4, none⟩ = some (.int .i64 t) := (hb1.cell (p := ⟨w.heap.size, 4, none⟩) (by simp)).trans (by simp)
      have x5 : u1.cell? ⟨w.heap.size, 5, none⟩ = some (.int .i64 p) := (hb1.cell (p := ⟨w.heap.size, 5, none⟩) (by simp)).trans (by simp)
      have x6 : u1.cell? ⟨w.heap.size, 6, none⟩ = some (.int .i64 f) := (hb1.cell (p := ⟨w.heap.size, 6, none⟩) (by simp)).trans (by simp)
      have x7 : u1.cell? ⟨w.heap.size, 7, none⟩ = some (.bool lw) := (hb1.cell (p := ⟨w.heap.size, 7, none⟩) (by simp)).trans (by simp)
      have x8 : u1.cell? ⟨w.heap.size, 8, none⟩ = some (.bool lu) := (hb1.cell (p := ⟨w.heap.size, 8, none⟩) (by simp)).trans (by simp)
      have x9 : u1.cell? ⟨w.heap.size, 9, none⟩ = some (.bool lx) := (hb1.cell (p := ⟨w.heap.size, 9, none⟩) (by simp)).trans (by simp)
      have x10 : u1.cell? ⟨w.heap.size, 10, none⟩ = some (.bool g) := (hb1.cell (p := ⟨w.heap.size, 10, none⟩) (by simp)).trans (by simp)
      have x11 : u1.cell? ⟨w.heap.size, 11, none⟩ = some (.bool d) := (hb1.cell (p := ⟨w.heap.size, 11, none⟩) (by simp)).trans (by simp)
      have lx1 : w.heap.size < u1.heap.size := Nat.lt_of_lt_of_le (by simp) hb1.size
      have B1 : Hid (Below w.heap.size w u1) := below_then (Go.Joins.below_alloc1 _ _) hb1
      clear hb1
      go_wp2_with fail
      go_returns
      exact ⟨⟨p0, c0, rfl, HI.out.below B1.out⟩, HT.out.below B1.out, grown_of_below B1.out _⟩
    have d0 : decide (a < 0) = false := by simp; omega
    by_cases k1 : 7 < a
    · have d1 : decide (7 < a) = true := by simp [k1]
      have FI : Hid (∀ W : World, Calls Try.prog 35 #[.pointer (some ⟨b, 0, none⟩), .int .i64 a, .int .i64 c] W fun e w' => e = .returned (.int .i64 1) ∧ Below W.heap.size W w') := fun W => evict_bad b a c (by omega) W
      rw [if_neg (by omega)]
      obtain ⟨n0, hn0⟩ : ∃ n0, (rowT T 16).length = n0 := ⟨_, rfl⟩
      have HN0 : Hid ((rowT T 16).length = n0) := hn0
      rw [hn0]
      clear hn0
      go_enter Try.func22, Try.ntmps22
      go_wp2_with fail
      refine (FI.out _).mono ?_
      rintro e u1 ⟨rfl, hb1⟩
      have x0 : u1.cell? ⟨w.heap.size, 0, none⟩ = some (.int .i64 2) := (hb1.cell (p := ⟨w.heap.size, 0, none⟩) (by simp)).trans (by simp)
      have x1 : u1.cell? ⟨w.heap.size, 1, none⟩ = some (.int .i64 a) := (hb1.cell (p := ⟨w.heap.size, 1, none⟩) (by simp)).trans (by simp)
      have x2 : u1.cell? ⟨w.heap.size, 2, none⟩ = some (.int .i64 c) := (hb1.cell (p := ⟨w.heap.size, 2, none⟩) (by simp)).trans (by simp)
      have x3 : u1.cell? ⟨w.heap.size, 3, none⟩ = some (.bool v) := (hb1.cell (p := ⟨w.heap.size, 3, none⟩) (by simp)).trans (by simp)
      have x4 : u1.cell? ⟨w.heap.size, 4, none⟩ = some (.int .i64 t) := (hb1.cell (p := ⟨w.heap.size, 4, none⟩) (by simp)).trans (by simp)
      have x5 : u1.cell? ⟨w.heap.size, 5, none⟩ = some (.int .i64 p) := (hb1.cell (p := ⟨w.heap.size, 5, none⟩) (by simp)).trans (by simp)
      have x6 : u1.cell? ⟨w.heap.size, 6, none⟩ = some (.int .i64 f) := (hb1.cell (p := ⟨w.heap.size, 6, none⟩) (by simp)).trans (by simp)
      have x7 : u1.cell? ⟨w.heap.size, 7, none⟩ = some (.bool lw) := (hb1.cell (p := ⟨w.heap.size, 7, none⟩) (by simp)).trans (by simp)
      have x8 : u1.cell? ⟨w.heap.size, 8, none⟩ = some (.bool lu) := (hb1.cell (p := ⟨w.heap.size, 8, none⟩) (by simp)).trans (by simp)
      have x9 : u1.cell? ⟨w.heap.size, 9, none⟩ = some (.bool lx) := (hb1.cell (p := ⟨w.heap.size, 9, none⟩) (by simp)).trans (by simp)
      have x10 : u1.cell? ⟨w.heap.size, 10, none⟩ = some (.bool g) := (hb1.cell (p := ⟨w.heap.size, 10, none⟩) (by simp)).trans (by simp)
      have x11 : u1.cell? ⟨w.heap.size, 11, none⟩ = some (.bool d) := (hb1.cell (p := ⟨w.heap.size, 11, none⟩) (by simp)).trans (by simp)
      have lx1 : w.heap.size < u1.heap.size := Nat.lt_of_lt_of_le (by simp) hb1.size
      have B1 : Hid (Below w.heap.size w u1) := below_then (Go.Joins.below_alloc1 _ _) hb1
      clear hb1
      go_wp2_with fail
      go_returns
      exact ⟨⟨p0, c0, rfl, HI.out.below B1.out⟩, HT.out.below B1.out, grown_of_below B1.out _⟩
    have d1 : decide (7 < a) = false := by simp; omega
    by_cases k2 : c < 0
    · have d2 : decide (c < 0) = true := by simp [k2]
      have FI : Hid (∀ W : World, Calls Try.prog 35 #[.pointer (some ⟨b, 0, none⟩), .int .i64 a, .int .i64 c] W fun e w' => e = .returned (.int .i64 1) ∧ Below W.heap.size W w') := fun W => evict_bad b a c (by omega) W
      rw [if_neg (by omega)]
      obtain ⟨n0, hn0⟩ : ∃ n0, (rowT T 16).length = n0 := ⟨_, rfl⟩
      have HN0 : Hid ((rowT T 16).length = n0) := hn0
      rw [hn0]
      clear hn0
      go_enter Try.func22, Try.ntmps22
      go_wp2_with fail
      refine (FI.out _).mono ?_
      rintro e u1 ⟨rfl, hb1⟩
      have x0 : u1.cell? ⟨w.heap.size, 0, none⟩ = some (.int .i64 2) := (hb1.cell (p := ⟨w.heap.size, 0, none⟩) (by simp)).trans (by simp)
      have x1 : u1.cell? ⟨w.heap.size, 1, none⟩ = some (.int .i64 a) := (hb1.cell (p := ⟨w.heap.size, 1, none⟩) (by simp)).trans (by simp)
      have x2 : u1.cell? ⟨w.heap.size, 2, none⟩ = some (.int .i64 c) := (hb1.cell (p := ⟨w.heap.size, 2, none⟩) (by simp)).trans (by simp)
      have x3 : u1.cell? ⟨w.heap.size, 3, none⟩ = some (.bool v) := (hb1.cell (p := ⟨w.heap.size, 3, none⟩) (by simp)).trans (by simp)
      have x4 : u1.cell? ⟨w.heap.size, 4, none⟩ = some (.int .i64 t) := (hb1.cell (p := ⟨w.heap.size, 4, none⟩) (by simp)).trans (by simp)
      have x5 : u1.cell? ⟨w.heap.size, 5, none⟩ = some (.int .i64 p) := (hb1.cell (p := ⟨w.heap.size, 5, none⟩) (by simp)).trans (by simp)
      have x6 : u1.cell? ⟨w.heap.size, 6, none⟩ = some (.int .i64 f) := (hb1.cell (p := ⟨w.heap.size, 6, none⟩) (by simp)).trans (by simp)
      have x7 : u1.cell? ⟨w.heap.size, 7, none⟩ = some (.bool lw) := (hb1.cell (p := ⟨w.heap.size, 7, none⟩) (by simp)).trans (by simp)
      have x8 : u1.cell? ⟨w.heap.size, 8, none⟩ = some (.bool lu) := (hb1.cell (p := ⟨w.heap.size, 8, none⟩) (by simp)).trans (by simp)
      have x9 : u1.cell? ⟨w.heap.size, 9, none⟩ = some (.bool lx) := (hb1.cell (p := ⟨w.heap.size, 9, none⟩) (by simp)).trans (by simp)
      have x10 : u1.cell? ⟨w.heap.size, 10, none⟩ = some (.bool g) := (hb1.cell (p := ⟨w.heap.size, 10, none⟩) (by simp)).trans (by simp)
      have x11 : u1.cell? ⟨w.heap.size, 11, none⟩ = some (.bool d) := (hb1.cell (p := ⟨w.heap.size, 11, none⟩) (by simp)).trans (by simp)
      have lx1 : w.heap.size < u1.heap.size := Nat.lt_of_lt_of_le (by simp) hb1.size
      have B1 : Hid (Below w.heap.size w u1) := below_then (Go.Joins.below_alloc1 _ _) hb1
      clear hb1
      go_wp2_with fail
      go_returns
      exact ⟨⟨p0, c0, rfl, HI.out.below B1.out⟩, HT.out.below B1.out, grown_of_below B1.out _⟩
    have d2 : decide (c < 0) = false := by simp; omega
    by_cases k3 : 1 < c
    · have d3 : decide (1 < c) = true := by simp [k3]
      have FI : Hid (∀ W : World, Calls Try.prog 35 #[.pointer (some ⟨b, 0, none⟩), .int .i64 a, .int .i64 c] W fun e w' => e = .returned (.int .i64 1) ∧ Below W.heap.size W w') := fun W => evict_bad b a c (by omega) W
      rw [if_neg (by omega)]
      obtain ⟨n0, hn0⟩ : ∃ n0, (rowT T 16).length = n0 := ⟨_, rfl⟩
      have HN0 : Hid ((rowT T 16).length = n0) := hn0
      rw [hn0]
      clear hn0
      go_enter Try.func22, Try.ntmps22
      go_wp2_with fail
      refine (FI.out _).mono ?_
      rintro e u1 ⟨rfl, hb1⟩
      have x0 : u1.cell? ⟨w.heap.size, 0, none⟩ = some (.int .i64 2) := (hb1.cell (p := ⟨w.heap.size, 0, none⟩) (by simp)).trans (by simp)
      have x1 : u1.cell? ⟨w.heap.size, 1, none⟩ = some (.int .i64 a) := (hb1.cell (p := ⟨w.heap.size, 1, none⟩) (by simp)).trans (by simp)
      have x2 : u1.cell? ⟨w.heap.size, 2, none⟩ = some (.int .i64 c) := (hb1.cell (p := ⟨w.heap.size, 2, none⟩) (by simp)).trans (by simp)
      have x3 : u1.cell? ⟨w.heap.size, 3, none⟩ = some (.bool v) := (hb1.cell (p := ⟨w.heap.size, 3, none⟩) (by simp)).trans (by simp)
      have x4 : u1.cell? ⟨w.heap.size, 4, none⟩ = some (.int .i64 t) := (hb1.cell (p := ⟨w.heap.size, 4, none⟩) (by simp)).trans (by simp)
      have x5 : u1.cell? ⟨w.heap.size, 5, none⟩ = some (.int .i64 p) := (hb1.cell (p := ⟨w.heap.size, 5, none⟩) (by simp)).trans (by simp)
      have x6 : u1.cell? ⟨w.heap.size, 6, none⟩ = some (.int .i64 f) := (hb1.cell (p := ⟨w.heap.size, 6, none⟩) (by simp)).trans (by simp)
      have x7 : u1.cell? ⟨w.heap.size, 7, none⟩ = some (.bool lw) := (hb1.cell (p := ⟨w.heap.size, 7, none⟩) (by simp)).trans (by simp)
      have x8 : u1.cell? ⟨w.heap.size, 8, none⟩ = some (.bool lu) := (hb1.cell (p := ⟨w.heap.size, 8, none⟩) (by simp)).trans (by simp)
      have x9 : u1.cell? ⟨w.heap.size, 9, none⟩ = some (.bool lx) := (hb1.cell (p := ⟨w.heap.size, 9, none⟩) (by simp)).trans (by simp)
      have x10 : u1.cell? ⟨w.heap.size, 10, none⟩ = some (.bool g) := (hb1.cell (p := ⟨w.heap.size, 10, none⟩) (by simp)).trans (by simp)
      have x11 : u1.cell? ⟨w.heap.size, 11, none⟩ = some (.bool d) := (hb1.cell (p := ⟨w.heap.size, 11, none⟩) (by simp)).trans (by simp)
      have lx1 : w.heap.size < u1.heap.size := Nat.lt_of_lt_of_le (by simp) hb1.size
      have B1 : Hid (Below w.heap.size w u1) := below_then (Go.Joins.below_alloc1 _ _) hb1
      clear hb1
      go_wp2_with fail
      go_returns
      exact ⟨⟨p0, c0, rfl, HI.out.below B1.out⟩, HT.out.below B1.out, grown_of_below B1.out _⟩
    have d3 : decide (1 < c) = false := by simp; omega
    rw [if_pos (by omega)]
    obtain ⟨s, rfl⟩ : ∃ s : Nat, a = s := ⟨a.toNat, by omega⟩
    obtain ⟨y, rfl⟩ : ∃ y : Nat, c = y := ⟨c.toNat, by omega⟩
    rw [Int.toNat_natCast, Int.toNat_natCast]
    have FI : Hid (∀ W : World, IsTlb W b T → Calls Try.prog 35 #[.pointer (some ⟨b, 0, none⟩), .int .i64 s, .int .i64 y] W fun e w' => e = .returned (.int .i64 0) ∧ IsTlb w' b (evictT T (2 * s + y)) ∧ W.grownBy w' (some b)) := fun W h => evict_ok b T s y (by omega) (by omega) W h
    have HR := row_evict HG.out s y (by omega) (by omega)
    generalize evictT T (2 * s + y) = T2 at FI HR ⊢
    have WF := WN.out T2 1 s y (by omega) HR
    have WF : Hid _ := WF
    obtain ⟨n0, hn0⟩ : ∃ n0, (rowT T 16).length = n0 := ⟨_, rfl⟩
    rw [hn0] at WF ⊢
    clear hn0 WN HR
    go_enter Try.func22, Try.ntmps22
    go_wp2_with fail
    refine (FI.out _ (HT.out.below (Go.Joins.below_alloc1 _ _))).mono ?_
    rintro e u1 ⟨rfl, h1, h2⟩
    have x0 : u1.cell? ⟨w.heap.size, 0, none⟩ = some (.int .i64 2) := cell_grown h2 (by simp) (by omega) (by simp)
    have x1 : u1.cell? ⟨w.heap.size, 1, none⟩ = some (.int .i64 s) := cell_grown h2 (by simp) (by omega) (by simp)
    have x2 : u1.cell? ⟨w.heap.size, 2, none⟩ = some (.int .i64 y) := cell_grown h2 (by simp) (by omega) (by simp)
    have x3 : u1.cell? ⟨w.heap.size, 3, none⟩ = some (.bool v) := cell_grown h2 (by simp) (by omega) (by simp)
    have x4 : u1.cell? ⟨w.heap.size, 4, none⟩ = some (.int .i64 t) := cell_grown h2 (by simp) (by omega) (by simp)
    have x5 : u1.cell? ⟨w.heap.size, 5, none⟩ = some (.int .i64 p) := cell_grown h2 (by simp) (by omega) (by simp)
    have x6 : u1.cell? ⟨w.heap.size, 6, none⟩ = some (.int .i64 f) := cell_grown h2 (by simp) (by omega) (by simp)
    have x7 : u1.cell? ⟨w.heap.size, 7, none⟩ = some (.bool lw) := cell_grown h2 (by simp) (by omega) (by simp)
    have x8 : u1.cell? ⟨w.heap.size, 8, none⟩ = some (.bool lu) := cell_grown h2 (by simp) (by omega) (by simp)
    have x9 : u1.cell? ⟨w.heap.size, 9, none⟩ = some (.bool lx) := cell_grown h2 (by simp) (by omega) (by simp)
    have x10 : u1.cell? ⟨w.heap.size, 10, none⟩ = some (.bool g) := cell_grown h2 (by simp) (by omega) (by simp)
    have x11 : u1.cell? ⟨w.heap.size, 11, none⟩ = some (.bool d) := cell_grown h2 (by simp) (by omega) (by simp)
    have lx1 : w.heap.size < u1.heap.size := Nat.lt_of_lt_of_le (by simp) h2.size
    have T1 : Hid (IsTlb u1 b T2) := h1
    have G1 : Hid (w.grownBy u1 (some b)) := grown_trans (grown_alloc _ _ _) h2
    have I1 : Hid (IsRl u1 base p0 (rowT T 16)) := (HI.out.below (Go.Joins.below_alloc1 _ _)).grown h2 hbb
    clear h1 h2
    go_wp2_with fail
    refine (WF.out _ I1.out).mono ?_
    rintro e u2 ⟨⟨p', c', rfl, hI'⟩, hb2⟩
    have T3 : Hid (IsTlb u2 b T2) := T1.out.below hb2
    have G3 : Hid (w.grownBy u2 (some b)) := grown_trans G1.out (grown_of_below hb2 _)
    have I3 : Hid (IsRl u2 base p' (rowT T2 16)) := hI'.weak (Nat.le_trans hbw G1.out.size)
    clear hb2 hI'
    go_wp2_with fail
    go_returns
    exact ⟨⟨_, _, rfl, I3.out⟩, T3.out, G3.out⟩
  have b2 : (k == 2) = false := by simp [q2]
  rw [if_neg q2]
  by_cases q3 : k = 3
  · subst q3
    rw [if_pos rfl]
    have FI : Hid (∀ W : World, IsTlb W b T → Calls Try.prog 37 #[.pointer (some ⟨b, 0, none⟩), .int .i64 a, .int .i64 c] W fun e w' => e = .returned (.tuple #[]) ∧ IsTlb w' b (dropT T (fun l => l.fits a c) 16) ∧ W.grownBy w' (some b)) := fun W h => page_any b T a c W h
    have HR := row_page T a c
    generalize dropT T (fun l => l.fits a c) 16 = T2 at FI HR ⊢
    have WF := WN.out T2 2 a c (by omega) HR
    have WF : Hid _ := WF
    obtain ⟨n0, hn0⟩ : ∃ n0, (rowT T 16).length = n0 := ⟨_, rfl⟩
    rw [hn0] at WF ⊢
    clear hn0 WN HR
    go_enter Try.func22, Try.ntmps22
    go_wp2_with fail
    refine (FI.out _ (HT.out.below (Go.Joins.below_alloc1 _ _))).mono ?_
    rintro e u1 ⟨rfl, h1, h2⟩
    have x0 : u1.cell? ⟨w.heap.size, 0, none⟩ = some (.int .i64 3) := cell_grown h2 (by simp) (by omega) (by simp)
    have x1 : u1.cell? ⟨w.heap.size, 1, none⟩ = some (.int .i64 a) := cell_grown h2 (by simp) (by omega) (by simp)
    have x2 : u1.cell? ⟨w.heap.size, 2, none⟩ = some (.int .i64 c) := cell_grown h2 (by simp) (by omega) (by simp)
    have x3 : u1.cell? ⟨w.heap.size, 3, none⟩ = some (.bool v) := cell_grown h2 (by simp) (by omega) (by simp)
    have x4 : u1.cell? ⟨w.heap.size, 4, none⟩ = some (.int .i64 t) := cell_grown h2 (by simp) (by omega) (by simp)
    have x5 : u1.cell? ⟨w.heap.size, 5, none⟩ = some (.int .i64 p) := cell_grown h2 (by simp) (by omega) (by simp)
    have x6 : u1.cell? ⟨w.heap.size, 6, none⟩ = some (.int .i64 f) := cell_grown h2 (by simp) (by omega) (by simp)
    have x7 : u1.cell? ⟨w.heap.size, 7, none⟩ = some (.bool lw) := cell_grown h2 (by simp) (by omega) (by simp)
    have x8 : u1.cell? ⟨w.heap.size, 8, none⟩ = some (.bool lu) := cell_grown h2 (by simp) (by omega) (by simp)
    have x9 : u1.cell? ⟨w.heap.size, 9, none⟩ = some (.bool lx) := cell_grown h2 (by simp) (by omega) (by simp)
    have x10 : u1.cell? ⟨w.heap.size, 10, none⟩ = some (.bool g) := cell_grown h2 (by simp) (by omega) (by simp)
    have x11 : u1.cell? ⟨w.heap.size, 11, none⟩ = some (.bool d) := cell_grown h2 (by simp) (by omega) (by simp)
    have lx1 : w.heap.size < u1.heap.size := Nat.lt_of_lt_of_le (by simp) h2.size
    have T1 : Hid (IsTlb u1 b T2) := h1
    have G1 : Hid (w.grownBy u1 (some b)) := grown_trans (grown_alloc _ _ _) h2
    have I1 : Hid (IsRl u1 base p0 (rowT T 16)) := (HI.out.below (Go.Joins.below_alloc1 _ _)).grown h2 hbb
    clear h1 h2
    go_wp2_with fail
    refine (WF.out _ I1.out).mono ?_
    rintro e u2 ⟨⟨p', c', rfl, hI'⟩, hb2⟩
    have T3 : Hid (IsTlb u2 b T2) := T1.out.below hb2
    have G3 : Hid (w.grownBy u2 (some b)) := grown_trans G1.out (grown_of_below hb2 _)
    have I3 : Hid (IsRl u2 base p' (rowT T2 16)) := hI'.weak (Nat.le_trans hbw G1.out.size)
    clear hb2 hI'
    go_wp2_with fail
    go_returns
    exact ⟨⟨_, _, rfl, I3.out⟩, T3.out, G3.out⟩
  have b3 : (k == 3) = false := by simp [q3]
  rw [if_neg q3]
  by_cases q4 : k = 4
  · subst q4
    rw [if_pos rfl]
    have FI : Hid (∀ W : World, IsTlb W b T → Calls Try.prog 38 #[.pointer (some ⟨b, 0, none⟩), .int .i64 a] W fun e w' => e = .returned (.tuple #[]) ∧ IsTlb w' b (dropT T (fun l => l.t == a && !l.g) 16) ∧ W.grownBy w' (some b)) := fun W h => tag_any b T a W h
    have HR := row_tag T a
    generalize dropT T (fun l => l.t == a && !l.g) 16 = T2 at FI HR ⊢
    have WF := WN.out T2 3 a 0 (by omega) HR
    have WF : Hid _ := WF
    obtain ⟨n0, hn0⟩ : ∃ n0, (rowT T 16).length = n0 := ⟨_, rfl⟩
    rw [hn0] at WF ⊢
    clear hn0 WN HR
    go_enter Try.func22, Try.ntmps22
    go_wp2_with fail
    refine (FI.out _ (HT.out.below (Go.Joins.below_alloc1 _ _))).mono ?_
    rintro e u1 ⟨rfl, h1, h2⟩
    have x0 : u1.cell? ⟨w.heap.size, 0, none⟩ = some (.int .i64 4) := cell_grown h2 (by simp) (by omega) (by simp)
    have x1 : u1.cell? ⟨w.heap.size, 1, none⟩ = some (.int .i64 a) := cell_grown h2 (by simp) (by omega) (by simp)
    have x2 : u1.cell? ⟨w.heap.size, 2, none⟩ = some (.int .i64 c) := cell_grown h2 (by simp) (by omega) (by simp)
    have x3 : u1.cell? ⟨w.heap.size, 3, none⟩ = some (.bool v) := cell_grown h2 (by simp) (by omega) (by simp)
    have x4 : u1.cell? ⟨w.heap.size, 4, none⟩ = some (.int .i64 t) := cell_grown h2 (by simp) (by omega) (by simp)
    have x5 : u1.cell? ⟨w.heap.size, 5, none⟩ = some (.int .i64 p) := cell_grown h2 (by simp) (by omega) (by simp)
    have x6 : u1.cell? ⟨w.heap.size, 6, none⟩ = some (.int .i64 f) := cell_grown h2 (by simp) (by omega) (by simp)
    have x7 : u1.cell? ⟨w.heap.size, 7, none⟩ = some (.bool lw) := cell_grown h2 (by simp) (by omega) (by simp)
    have x8 : u1.cell? ⟨w.heap.size, 8, none⟩ = some (.bool lu) := cell_grown h2 (by simp) (by omega) (by simp)
    have x9 : u1.cell? ⟨w.heap.size, 9, none⟩ = some (.bool lx) := cell_grown h2 (by simp) (by omega) (by simp)
    have x10 : u1.cell? ⟨w.heap.size, 10, none⟩ = some (.bool g) := cell_grown h2 (by simp) (by omega) (by simp)
    have x11 : u1.cell? ⟨w.heap.size, 11, none⟩ = some (.bool d) := cell_grown h2 (by simp) (by omega) (by simp)
    have lx1 : w.heap.size < u1.heap.size := Nat.lt_of_lt_of_le (by simp) h2.size
    have T1 : Hid (IsTlb u1 b T2) := h1
    have G1 : Hid (w.grownBy u1 (some b)) := grown_trans (grown_alloc _ _ _) h2
    have I1 : Hid (IsRl u1 base p0 (rowT T 16)) := (HI.out.below (Go.Joins.below_alloc1 _ _)).grown h2 hbb
    clear h1 h2
    go_wp2_with fail
    refine (WF.out _ I1.out).mono ?_
    rintro e u2 ⟨⟨p', c', rfl, hI'⟩, hb2⟩
    have T3 : Hid (IsTlb u2 b T2) := T1.out.below hb2
    have G3 : Hid (w.grownBy u2 (some b)) := grown_trans G1.out (grown_of_below hb2 _)
    have I3 : Hid (IsRl u2 base p' (rowT T2 16)) := hI'.weak (Nat.le_trans hbw G1.out.size)
    clear hb2 hI'
    go_wp2_with fail
    go_returns
    exact ⟨⟨_, _, rfl, I3.out⟩, T3.out, G3.out⟩
  have b4 : (k == 4) = false := by simp [q4]
  rw [if_neg q4]
  by_cases q5 : k = 5
  · subst q5
    rw [if_pos rfl]
    have FI : Hid (∀ W : World, IsTlb W b T → Calls Try.prog 39 #[.pointer (some ⟨b, 0, none⟩), .bool (!(a == 0))] W fun e w' => e = .returned (.tuple #[]) ∧ IsTlb w' b (dropT T (fun l => !(!(a == 0)) || !l.g) 16) ∧ W.grownBy w' (some b)) := fun W h => all_any b T (!(a == 0)) W h
    have HR := row_all T a
    generalize dropT T (fun l => !(!(a == 0)) || !l.g) 16 = T2 at FI HR ⊢
    have WF := WN.out T2 4 a 0 (by omega) HR
    have WF : Hid _ := WF
    obtain ⟨n0, hn0⟩ : ∃ n0, (rowT T 16).length = n0 := ⟨_, rfl⟩
    rw [hn0] at WF ⊢
    clear hn0 WN HR
    go_enter Try.func22, Try.ntmps22
    go_wp2_with fail
    refine (FI.out _ (HT.out.below (Go.Joins.below_alloc1 _ _))).mono ?_
    rintro e u1 ⟨rfl, h1, h2⟩
    have x0 : u1.cell? ⟨w.heap.size, 0, none⟩ = some (.int .i64 5) := cell_grown h2 (by simp) (by omega) (by simp)
    have x1 : u1.cell? ⟨w.heap.size, 1, none⟩ = some (.int .i64 a) := cell_grown h2 (by simp) (by omega) (by simp)
    have x2 : u1.cell? ⟨w.heap.size, 2, none⟩ = some (.int .i64 c) := cell_grown h2 (by simp) (by omega) (by simp)
    have x3 : u1.cell? ⟨w.heap.size, 3, none⟩ = some (.bool v) := cell_grown h2 (by simp) (by omega) (by simp)
    have x4 : u1.cell? ⟨w.heap.size, 4, none⟩ = some (.int .i64 t) := cell_grown h2 (by simp) (by omega) (by simp)
    have x5 : u1.cell? ⟨w.heap.size, 5, none⟩ = some (.int .i64 p) := cell_grown h2 (by simp) (by omega) (by simp)
    have x6 : u1.cell? ⟨w.heap.size, 6, none⟩ = some (.int .i64 f) := cell_grown h2 (by simp) (by omega) (by simp)
    have x7 : u1.cell? ⟨w.heap.size, 7, none⟩ = some (.bool lw) := cell_grown h2 (by simp) (by omega) (by simp)
    have x8 : u1.cell? ⟨w.heap.size, 8, none⟩ = some (.bool lu) := cell_grown h2 (by simp) (by omega) (by simp)
    have x9 : u1.cell? ⟨w.heap.size, 9, none⟩ = some (.bool lx) := cell_grown h2 (by simp) (by omega) (by simp)
    have x10 : u1.cell? ⟨w.heap.size, 10, none⟩ = some (.bool g) := cell_grown h2 (by simp) (by omega) (by simp)
    have x11 : u1.cell? ⟨w.heap.size, 11, none⟩ = some (.bool d) := cell_grown h2 (by simp) (by omega) (by simp)
    have lx1 : w.heap.size < u1.heap.size := Nat.lt_of_lt_of_le (by simp) h2.size
    have T1 : Hid (IsTlb u1 b T2) := h1
    have G1 : Hid (w.grownBy u1 (some b)) := grown_trans (grown_alloc _ _ _) h2
    have I1 : Hid (IsRl u1 base p0 (rowT T 16)) := (HI.out.below (Go.Joins.below_alloc1 _ _)).grown h2 hbb
    clear h1 h2
    go_wp2_with fail
    refine (WF.out _ I1.out).mono ?_
    rintro e u2 ⟨⟨p', c', rfl, hI'⟩, hb2⟩
    have T3 : Hid (IsTlb u2 b T2) := T1.out.below hb2
    have G3 : Hid (w.grownBy u2 (some b)) := grown_trans G1.out (grown_of_below hb2 _)
    have I3 : Hid (IsRl u2 base p' (rowT T2 16)) := hI'.weak (Nat.le_trans hbw G1.out.size)
    clear hb2 hI'
    go_wp2_with fail
    go_returns
    exact ⟨⟨_, _, rfl, I3.out⟩, T3.out, G3.out⟩
  have b5 : (k == 5) = false := by simp [q5]
  rw [if_neg q5]
  obtain ⟨n0, hn0⟩ : ∃ n0, (rowT T 16).length = n0 := ⟨_, rfl⟩
  have HN0 : Hid ((rowT T 16).length = n0) := hn0
  rw [hn0]
  clear hn0
  go_enter Try.func22, Try.ntmps22
  go_wp2_with fail
  go_returns
  exact ⟨⟨p0, c0, rfl, HI.out.below (Go.Joins.below_alloc1 _ _)⟩, HT.out.below (Go.Joins.below_alloc1 _ _), grown_alloc _ _ _⟩
end Go.Proofs.Ytihedjlcjkbjfaa
