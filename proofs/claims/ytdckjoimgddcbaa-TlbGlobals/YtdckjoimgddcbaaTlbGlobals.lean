/- For any line, way and tag: a line that is global is found by every tag and stays when its tag's lines go, any other is found by its own tag alone; no condition. -/
import Derived.Test.YtdckjoimgddcbaaRows
import Derived.ProofKit
import Derived.OpenShut
import Derived.Carry
import Derived.Test.YtdckjoimgddcbaaT10
namespace Go.Proofs.Ytdckjoimgddcbaa.tlbGlobals
open Go.ChangeShapes Go.WideShapes Go.ChangeAt Go.RowKit Go.Maps
set_option linter.unusedSimpArgs false
set_option linter.unusedVariables false
theorem size1 (w : World) (a : Obj) : (w.alloc a).heap.size = w.heap.size + 1 := by simp

set_option maxRecDepth 8000 in
set_option maxHeartbeats 2000000 in
theorem walk (l0 : Ln) (w0t : (Lit.int .i64 l0.t).wf = true) (w0p : (Lit.int .i64 l0.p).wf = true) (w0f : (Lit.int .i64 l0.f).wf = true) (a1 : Int) (w1 : (Lit.int .i64 a1).wf = true) (a2 : Int) (w2 : (Lit.int .i64 a2).wf = true) (w : World) :
    Calls Try.prog 6 #[l0.val, .int .i64 a1, .int .i64 a2] w fun e w' => e = .returned (.bool true) ∧ Below w.heap.size w w' := by
  obtain ⟨Zs, hz, hs, hzz⟩ := zero30
  have AW : Hid (∀ w : World, Calls Try.prog 9 #[] w fun e w' => e = .returned (.bool true) ∧ Below w.heap.size w w') := fun w => awake_any w
  have hs' := hs
  by_cases hw : 0 ≤ a1 ∧ a1 < 2 ∧ l0.ok = true
  · obtain ⟨y0, y2, hok⟩ := hw
    obtain ⟨y, rfl⟩ := Int.eq_ofNat_of_zero_le y0
    have hy : y < 2 := by omega
    obtain ⟨v, t, p, f, x, u, z, g, d⟩ := l0
    obtain rfl : v = true := by cases v <;> simp_all [Ln.ok]
    have hp : 0 ≤ p := by simp [Ln.ok] at hok; omega
    have M : Hid (Own w ((w.alloc (.cells #[.bool true, .int .i64 t, .int .i64 p, .int .i64 f, .bool x, .bool u, .bool z, .bool g, .bool d] 26)).alloc (.cells Zs 30)) (w.heap.size + 1) T0) := by
      have := IsTlb.made (w.alloc (.cells #[.bool true, .int .i64 t, .int .i64 p, .int .i64 f, .bool x, .bool u, .bool z, .bool g, .bool d] 26)) Zs hs hzz
      rw [size1] at this
      exact ⟨this, Go.Joins.below_alloc2 _ _ _, by omega⟩
    clear hs hzz hs' w0t w0p w0f y0 y2 w1
    by_cases ht : 0 ≤ a2 ∧ a2 ≤ 4095
    · have e1 : decide (a2 < 0) = false := by simp; omega
      have e2 : decide (4095 < a2) = false := by simp; omega
      cases g
      · by_cases ne : t = a2
        · subst ne
          have FI : Hid (∀ W : World, IsTlb W (w.heap.size + 1) T0 → Calls Try.prog 18 #[.pointer (some ⟨w.heap.size + 1, 0, none⟩), .int .i64 y, .agg #[.bool true, .int .i64 t, .int .i64 p, .int .i64 f, .bool x, .bool u, .bool z, .bool false, .bool d]] W fun e w' => e = .returned (.int .i64 0) ∧ IsTlb w' (w.heap.size + 1) (oneT (2 * (p % 8).toNat + y) (⟨true, t, p, f, x, u, z, false, d⟩ : Ln)) ∧ W.grownBy w' (some (w.heap.size + 1))) := fun W h => by
            have hs : (⟨true, t, p, f, x, u, z, false, d⟩ : Ln).p % 8 = (((p % 8).toNat : Nat) : Int) := by show p % 8 = _; omega
            refine (fill_ok (w.heap.size + 1) T0 (⟨true, t, p, f, x, u, z, false, d⟩ : Ln) y (p % 8).toNat hy hok hp hs W h).mono fun e w' ⟨h1, h2, h3⟩ => ⟨h1, h2.congr (fun i hi => ?_), h3⟩
            have := one_fill y (⟨true, t, p, f, x, u, z, false, d⟩ : Ln) i hi
            rw [Int.toNat_natCast] at this
            exact this
          have F1 : Hid (∀ W : World, IsTlb W (w.heap.size + 1) (oneT (2 * (p % 8).toNat + y) (⟨true, t, p, f, x, u, z, false, d⟩ : Ln)) → Calls Try.prog 13 #[.pointer (some ⟨w.heap.size + 1, 0, none⟩), .int .i64 t, .int .i64 p] W fun e w' => e = .returned (.tuple #[.agg #[.bool true, .int .i64 t, .int .i64 p, .int .i64 f, .bool x, .bool u, .bool z, .bool false, .bool d], .bool true]) ∧ Below W.heap.size W w') := fun W h => by
            have := find_any (w.heap.size + 1) _ t p W h
            rw [one_find y hy _ _ _ hp, show (⟨true, t, p, f, x, u, z, false, d⟩ : Ln).fits t p = true by simp [Ln.fits]] at this
            exact this
          have TG : Hid (∀ W : World, IsTlb W (w.heap.size + 1) (oneT (2 * (p % 8).toNat + y) (⟨true, t, p, f, x, u, z, false, d⟩ : Ln)) → Calls Try.prog 16 #[.pointer (some ⟨w.heap.size + 1, 0, none⟩), .int .i64 t] W fun e w' => e = .returned (.tuple #[]) ∧ IsTlb w' (w.heap.size + 1) (oneT (2 * (p % 8).toNat + y) Ln.zero) ∧ W.grownBy w' (some (w.heap.size + 1))) := fun W h =>
            (tag_any (w.heap.size + 1) _ t W h).mono fun e w' ⟨h1, h2, h3⟩ => ⟨h1, h2.congr (fun i hi => by rw [one_drop _ _ _ i hi]; simp), h3⟩
          have F2 : Hid (∀ W : World, IsTlb W (w.heap.size + 1) (oneT (2 * (p % 8).toNat + y) Ln.zero) → Calls Try.prog 13 #[.pointer (some ⟨w.heap.size + 1, 0, none⟩), .int .i64 t, .int .i64 p] W fun e w' => e = .returned (.tuple #[.agg #[.bool false, .int .i64 0, .int .i64 0, .int .i64 0, .bool false, .bool false, .bool false, .bool false, .bool false], .bool false]) ∧ Below W.heap.size W w') := fun W h => by
            have := find_any (w.heap.size + 1) _ t p W h
            rw [one_find y hy _ _ _ hp, show Ln.zero.fits _ _ = false from rfl] at this
            exact this
          have A1 : Hid (∀ W : World, IsTlb W (w.heap.size + 1) (oneT (2 * (p % 8).toNat + y) Ln.zero) → Calls Try.prog 17 #[.pointer (some ⟨w.heap.size + 1, 0, none⟩), .bool true] W fun e w' => e = .returned (.tuple #[]) ∧ IsTlb w' (w.heap.size + 1) (oneT (2 * (p % 8).toNat + y) Ln.zero) ∧ W.grownBy w' (some (w.heap.size + 1))) := fun W h =>
            (all_any (w.heap.size + 1) _ true W h).mono fun e w' ⟨h1, h2, h3⟩ => ⟨h1, h2.congr (fun i hi => by rw [one_drop _ _ _ i hi]; simp), h3⟩
          have A2 : Hid (∀ W : World, IsTlb W (w.heap.size + 1) (oneT (2 * (p % 8).toNat + y) Ln.zero) → Calls Try.prog 17 #[.pointer (some ⟨w.heap.size + 1, 0, none⟩), .bool false] W fun e w' => e = .returned (.tuple #[]) ∧ IsTlb w' (w.heap.size + 1) (oneT (2 * (p % 8).toNat + y) Ln.zero) ∧ W.grownBy w' (some (w.heap.size + 1))) := fun W h =>
            (all_any (w.heap.size + 1) _ false W h).mono fun e w' ⟨h1, h2, h3⟩ => ⟨h1, h2.congr (fun i hi => by rw [one_drop _ _ _ i hi]; simp), h3⟩
          have F4 : Hid (∀ W : World, IsTlb W (w.heap.size + 1) (oneT (2 * (p % 8).toNat + y) Ln.zero) → Calls Try.prog 13 #[.pointer (some ⟨w.heap.size + 1, 0, none⟩), .int .i64 t, .int .i64 p] W fun e w' => e = .returned (.tuple #[.agg #[.bool false, .int .i64 0, .int .i64 0, .int .i64 0, .bool false, .bool false, .bool false, .bool false, .bool false], .bool false]) ∧ Below W.heap.size W w') := fun W h => by
            have := find_any (w.heap.size + 1) _ t p W h
            rw [one_find y hy _ _ _ hp, show Ln.zero.fits _ _ = false from rfl] at this
            exact this
          clear hok
          go_enter Try.func6, Try.ntmps6
          go_wp2_with fail
          refine (FI.out _ M.out.1).mono ?_
          rintro e u1 ⟨rfl, h1, h2⟩
          have M1 : Hid (Own w u1 (w.heap.size + 1) (oneT (2 * (p % 8).toNat + y) (⟨true, t, p, f, x, u, z, false, d⟩ : Ln))) := M.out.next h1 h2
          have O1 : Hid (u1.heap[w.heap.size]? = some (.cells #[.bool true, .int .i64 t, .int .i64 p, .int .i64 f, .bool x, .bool u, .bool z, .bool false, .bool d] 26 (0, 0))) := (h2.block _ (by simp; omega) (fun e => by have := Option.some.inj e; omega)).trans (own2a w _ _)
          have zz1 : w.heap.size < u1.heap.size := Nat.lt_of_lt_of_le (by simp; omega) h2.size
          have k1_0 : u1.cell? ⟨w.heap.size, 0, none⟩ = some (.bool true) := Go.Joins.cell_of_block O1.out 0
          have k1_1 : u1.cell? ⟨w.heap.size, 1, none⟩ = some (.int .i64 t) := Go.Joins.cell_of_block O1.out 1
          have k1_2 : u1.cell? ⟨w.heap.size, 2, none⟩ = some (.int .i64 p) := Go.Joins.cell_of_block O1.out 2
          have k1_3 : u1.cell? ⟨w.heap.size, 3, none⟩ = some (.int .i64 f) := Go.Joins.cell_of_block O1.out 3
          have k1_4 : u1.cell? ⟨w.heap.size, 4, none⟩ = some (.bool x) := Go.Joins.cell_of_block O1.out 4
          have k1_5 : u1.cell? ⟨w.heap.size, 5, none⟩ = some (.bool u) := Go.Joins.cell_of_block O1.out 5
          have k1_6 : u1.cell? ⟨w.heap.size, 6, none⟩ = some (.bool z) := Go.Joins.cell_of_block O1.out 6
          have k1_7 : u1.cell? ⟨w.heap.size, 7, none⟩ = some (.bool false) := Go.Joins.cell_of_block O1.out 7
          have k1_8 : u1.cell? ⟨w.heap.size, 8, none⟩ = some (.bool d) := Go.Joins.cell_of_block O1.out 8
          clear h1 h2 M
          go_wp2_with fail
          refine (F1.out _ M1.out.1).mono ?_
          rintro e u2 ⟨rfl, hb⟩
          have M2 : Hid (Own w u2 (w.heap.size + 1) (oneT (2 * (p % 8).toNat + y) (⟨true, t, p, f, x, u, z, false, d⟩ : Ln))) := M1.out.grow hb
          have O2 : Hid (u2.heap[w.heap.size]? = some (.cells #[.bool true, .int .i64 t, .int .i64 p, .int .i64 f, .bool x, .bool u, .bool z, .bool false, .bool d] 26 (0, 0))) := (hb.block _ (by exact zz1)).trans (O1.out)
          have zz2 : w.heap.size < u2.heap.size := Nat.lt_of_lt_of_le (by exact zz1) hb.size
          have k2_0 : u2.cell? ⟨w.heap.size, 0, none⟩ = some (.bool true) := Go.Joins.cell_of_block O2.out 0
          have k2_1 : u2.cell? ⟨w.heap.size, 1, none⟩ = some (.int .i64 t) := Go.Joins.cell_of_block O2.out 1
          have k2_2 : u2.cell? ⟨w.heap.size, 2, none⟩ = some (.int .i64 p) := Go.Joins.cell_of_block O2.out 2
          have k2_3 : u2.cell? ⟨w.heap.size, 3, none⟩ = some (.int .i64 f) := Go.Joins.cell_of_block O2.out 3
          have k2_4 : u2.cell? ⟨w.heap.size, 4, none⟩ = some (.bool x) := Go.Joins.cell_of_block O2.out 4
          have k2_5 : u2.cell? ⟨w.heap.size, 5, none⟩ = some (.bool u) := Go.Joins.cell_of_block O2.out 5
          have k2_6 : u2.cell? ⟨w.heap.size, 6, none⟩ = some (.bool z) := Go.Joins.cell_of_block O2.out 6
          have k2_7 : u2.cell? ⟨w.heap.size, 7, none⟩ = some (.bool false) := Go.Joins.cell_of_block O2.out 7
          have k2_8 : u2.cell? ⟨w.heap.size, 8, none⟩ = some (.bool d) := Go.Joins.cell_of_block O2.out 8
          clear hb M1 zz1 k1_0 k1_1 k1_2 k1_3 k1_4 k1_5 k1_6 k1_7 k1_8
          go_wp2_with fail
          refine (TG.out _ (M2.out.grow (Go.Joins.below_alloc1 _ _)).1).mono ?_
          rintro e u3 ⟨rfl, h1, h2⟩
          have M3 : Hid (Own w u3 (w.heap.size + 1) (oneT (2 * (p % 8).toNat + y) Ln.zero)) := (M2.out.grow (Go.Joins.below_alloc1 _ _)).next h1 h2
          have O3 : Hid (u3.heap[w.heap.size]? = some (.cells #[.bool true, .int .i64 t, .int .i64 p, .int .i64 f, .bool x, .bool u, .bool z, .bool false, .bool d] 26 (0, 0))) := (h2.block _ (by simp; omega) (fun e => by have := Option.some.inj e; omega)).trans (((Go.Joins.below_alloc1 _ _).block _ zz2).trans O2.out)
          have zz3 : w.heap.size < u3.heap.size := Nat.lt_of_lt_of_le (by simp; omega) h2.size
          have k3_0 : u3.cell? ⟨w.heap.size, 0, none⟩ = some (.bool true) := Go.Joins.cell_of_block O3.out 0
          have k3_1 : u3.cell? ⟨w.heap.size, 1, none⟩ = some (.int .i64 t) := Go.Joins.cell_of_block O3.out 1
          have k3_2 : u3.cell? ⟨w.heap.size, 2, none⟩ = some (.int .i64 p) := Go.Joins.cell_of_block O3.out 2
          have k3_3 : u3.cell? ⟨w.heap.size, 3, none⟩ = some (.int .i64 f) := Go.Joins.cell_of_block O3.out 3
          have k3_4 : u3.cell? ⟨w.heap.size, 4, none⟩ = some (.bool x) := Go.Joins.cell_of_block O3.out 4
          have k3_5 : u3.cell? ⟨w.heap.size, 5, none⟩ = some (.bool u) := Go.Joins.cell_of_block O3.out 5
          have k3_6 : u3.cell? ⟨w.heap.size, 6, none⟩ = some (.bool z) := Go.Joins.cell_of_block O3.out 6
          have k3_7 : u3.cell? ⟨w.heap.size, 7, none⟩ = some (.bool false) := Go.Joins.cell_of_block O3.out 7
          have k3_8 : u3.cell? ⟨w.heap.size, 8, none⟩ = some (.bool d) := Go.Joins.cell_of_block O3.out 8
          clear h1 h2 M2 zz2 k2_0 k2_1 k2_2 k2_3 k2_4 k2_5 k2_6 k2_7 k2_8
          go_wp2_with fail
          refine (F2.out _ M3.out.1).mono ?_
          rintro e u4 ⟨rfl, hb⟩
          have M4 : Hid (Own w u4 (w.heap.size + 1) (oneT (2 * (p % 8).toNat + y) Ln.zero)) := M3.out.grow hb
          have O4 : Hid (u4.heap[w.heap.size]? = some (.cells #[.bool true, .int .i64 t, .int .i64 p, .int .i64 f, .bool x, .bool u, .bool z, .bool false, .bool d] 26 (0, 0))) := (hb.block _ (by exact zz3)).trans (O3.out)
          have zz4 : w.heap.size < u4.heap.size := Nat.lt_of_lt_of_le (by exact zz3) hb.size
          have k4_0 : u4.cell? ⟨w.heap.size, 0, none⟩ = some (.bool true) := Go.Joins.cell_of_block O4.out 0
          have k4_1 : u4.cell? ⟨w.heap.size, 1, none⟩ = some (.int .i64 t) := Go.Joins.cell_of_block O4.out 1
          have k4_2 : u4.cell? ⟨w.heap.size, 2, none⟩ = some (.int .i64 p) := Go.Joins.cell_of_block O4.out 2
          have k4_3 : u4.cell? ⟨w.heap.size, 3, none⟩ = some (.int .i64 f) := Go.Joins.cell_of_block O4.out 3
          have k4_4 : u4.cell? ⟨w.heap.size, 4, none⟩ = some (.bool x) := Go.Joins.cell_of_block O4.out 4
          have k4_5 : u4.cell? ⟨w.heap.size, 5, none⟩ = some (.bool u) := Go.Joins.cell_of_block O4.out 5
          have k4_6 : u4.cell? ⟨w.heap.size, 6, none⟩ = some (.bool z) := Go.Joins.cell_of_block O4.out 6
          have k4_7 : u4.cell? ⟨w.heap.size, 7, none⟩ = some (.bool false) := Go.Joins.cell_of_block O4.out 7
          have k4_8 : u4.cell? ⟨w.heap.size, 8, none⟩ = some (.bool d) := Go.Joins.cell_of_block O4.out 8
          clear hb M3 zz3 k3_0 k3_1 k3_2 k3_3 k3_4 k3_5 k3_6 k3_7 k3_8
          go_wp2_with fail
          refine (A1.out _ (M4.out.grow (Go.Joins.below_alloc1 _ _)).1).mono ?_
          rintro e u5 ⟨rfl, h1, h2⟩
          have M5 : Hid (Own w u5 (w.heap.size + 1) (oneT (2 * (p % 8).toNat + y) Ln.zero)) := (M4.out.grow (Go.Joins.below_alloc1 _ _)).next h1 h2
          have O5 : Hid (u5.heap[w.heap.size]? = some (.cells #[.bool true, .int .i64 t, .int .i64 p, .int .i64 f, .bool x, .bool u, .bool z, .bool false, .bool d] 26 (0, 0))) := (h2.block _ (by simp; omega) (fun e => by have := Option.some.inj e; omega)).trans (((Go.Joins.below_alloc1 _ _).block _ zz4).trans O4.out)
          have zz5 : w.heap.size < u5.heap.size := Nat.lt_of_lt_of_le (by simp; omega) h2.size
          have k5_0 : u5.cell? ⟨w.heap.size, 0, none⟩ = some (.bool true) := Go.Joins.cell_of_block O5.out 0
          have k5_1 : u5.cell? ⟨w.heap.size, 1, none⟩ = some (.int .i64 t) := Go.Joins.cell_of_block O5.out 1
          have k5_2 : u5.cell? ⟨w.heap.size, 2, none⟩ = some (.int .i64 p) := Go.Joins.cell_of_block O5.out 2
          have k5_3 : u5.cell? ⟨w.heap.size, 3, none⟩ = some (.int .i64 f) := Go.Joins.cell_of_block O5.out 3
          have k5_4 : u5.cell? ⟨w.heap.size, 4, none⟩ = some (.bool x) := Go.Joins.cell_of_block O5.out 4
          have k5_5 : u5.cell? ⟨w.heap.size, 5, none⟩ = some (.bool u) := Go.Joins.cell_of_block O5.out 5
          have k5_6 : u5.cell? ⟨w.heap.size, 6, none⟩ = some (.bool z) := Go.Joins.cell_of_block O5.out 6
          have k5_7 : u5.cell? ⟨w.heap.size, 7, none⟩ = some (.bool false) := Go.Joins.cell_of_block O5.out 7
          have k5_8 : u5.cell? ⟨w.heap.size, 8, none⟩ = some (.bool d) := Go.Joins.cell_of_block O5.out 8
          clear h1 h2 M4 zz4 k4_0 k4_1 k4_2 k4_3 k4_4 k4_5 k4_6 k4_7 k4_8
          go_wp2_with fail
          refine (F2.out _ M5.out.1).mono ?_
          rintro e u6 ⟨rfl, hb⟩
          have M6 : Hid (Own w u6 (w.heap.size + 1) (oneT (2 * (p % 8).toNat + y) Ln.zero)) := M5.out.grow hb
          have O6 : Hid (u6.heap[w.heap.size]? = some (.cells #[.bool true, .int .i64 t, .int .i64 p, .int .i64 f, .bool x, .bool u, .bool z, .bool false, .bool d] 26 (0, 0))) := (hb.block _ (by exact zz5)).trans (O5.out)
          have zz6 : w.heap.size < u6.heap.size := Nat.lt_of_lt_of_le (by exact zz5) hb.size
          have k6_0 : u6.cell? ⟨w.heap.size, 0, none⟩ = some (.bool true) := Go.Joins.cell_of_block O6.out 0
          have k6_1 : u6.cell? ⟨w.heap.size, 1, none⟩ = some (.int .i64 t) := Go.Joins.cell_of_block O6.out 1
          have k6_2 : u6.cell? ⟨w.heap.size, 2, none⟩ = some (.int .i64 p) := Go.Joins.cell_of_block O6.out 2
          have k6_3 : u6.cell? ⟨w.heap.size, 3, none⟩ = some (.int .i64 f) := Go.Joins.cell_of_block O6.out 3
          have k6_4 : u6.cell? ⟨w.heap.size, 4, none⟩ = some (.bool x) := Go.Joins.cell_of_block O6.out 4
          have k6_5 : u6.cell? ⟨w.heap.size, 5, none⟩ = some (.bool u) := Go.Joins.cell_of_block O6.out 5
          have k6_6 : u6.cell? ⟨w.heap.size, 6, none⟩ = some (.bool z) := Go.Joins.cell_of_block O6.out 6
          have k6_7 : u6.cell? ⟨w.heap.size, 7, none⟩ = some (.bool false) := Go.Joins.cell_of_block O6.out 7
          have k6_8 : u6.cell? ⟨w.heap.size, 8, none⟩ = some (.bool d) := Go.Joins.cell_of_block O6.out 8
          clear hb M5 zz5 k5_0 k5_1 k5_2 k5_3 k5_4 k5_5 k5_6 k5_7 k5_8
          go_wp2_with fail
          refine (A2.out _ (M6.out.grow (Go.Joins.below_alloc1 _ _)).1).mono ?_
          rintro e u7 ⟨rfl, h1, h2⟩
          have M7 : Hid (Own w u7 (w.heap.size + 1) (oneT (2 * (p % 8).toNat + y) Ln.zero)) := (M6.out.grow (Go.Joins.below_alloc1 _ _)).next h1 h2
          have O7 : Hid (u7.heap[w.heap.size]? = some (.cells #[.bool true, .int .i64 t, .int .i64 p, .int .i64 f, .bool x, .bool u, .bool z, .bool false, .bool d] 26 (0, 0))) := (h2.block _ (by simp; omega) (fun e => by have := Option.some.inj e; omega)).trans (((Go.Joins.below_alloc1 _ _).block _ zz6).trans O6.out)
          have zz7 : w.heap.size < u7.heap.size := Nat.lt_of_lt_of_le (by simp; omega) h2.size
          have k7_0 : u7.cell? ⟨w.heap.size, 0, none⟩ = some (.bool true) := Go.Joins.cell_of_block O7.out 0
          have k7_1 : u7.cell? ⟨w.heap.size, 1, none⟩ = some (.int .i64 t) := Go.Joins.cell_of_block O7.out 1
          have k7_2 : u7.cell? ⟨w.heap.size, 2, none⟩ = some (.int .i64 p) := Go.Joins.cell_of_block O7.out 2
          have k7_3 : u7.cell? ⟨w.heap.size, 3, none⟩ = some (.int .i64 f) := Go.Joins.cell_of_block O7.out 3
          have k7_4 : u7.cell? ⟨w.heap.size, 4, none⟩ = some (.bool x) := Go.Joins.cell_of_block O7.out 4
          have k7_5 : u7.cell? ⟨w.heap.size, 5, none⟩ = some (.bool u) := Go.Joins.cell_of_block O7.out 5
          have k7_6 : u7.cell? ⟨w.heap.size, 6, none⟩ = some (.bool z) := Go.Joins.cell_of_block O7.out 6
          have k7_7 : u7.cell? ⟨w.heap.size, 7, none⟩ = some (.bool false) := Go.Joins.cell_of_block O7.out 7
          have k7_8 : u7.cell? ⟨w.heap.size, 8, none⟩ = some (.bool d) := Go.Joins.cell_of_block O7.out 8
          clear h1 h2 M6 zz6 k6_0 k6_1 k6_2 k6_3 k6_4 k6_5 k6_6 k6_7 k6_8
          go_wp2_with fail
          refine (F4.out _ M7.out.1).mono ?_
          rintro e u8 ⟨rfl, hb⟩
          have M8 : Hid (Own w u8 (w.heap.size + 1) (oneT (2 * (p % 8).toNat + y) Ln.zero)) := M7.out.grow hb
          have O8 : Hid (u8.heap[w.heap.size]? = some (.cells #[.bool true, .int .i64 t, .int .i64 p, .int .i64 f, .bool x, .bool u, .bool z, .bool false, .bool d] 26 (0, 0))) := (hb.block _ (by exact zz7)).trans (O7.out)
          have zz8 : w.heap.size < u8.heap.size := Nat.lt_of_lt_of_le (by exact zz7) hb.size
          have k8_0 : u8.cell? ⟨w.heap.size, 0, none⟩ = some (.bool true) := Go.Joins.cell_of_block O8.out 0
          have k8_1 : u8.cell? ⟨w.heap.size, 1, none⟩ = some (.int .i64 t) := Go.Joins.cell_of_block O8.out 1
          have k8_2 : u8.cell? ⟨w.heap.size, 2, none⟩ = some (.int .i64 p) := Go.Joins.cell_of_block O8.out 2
          have k8_3 : u8.cell? ⟨w.heap.size, 3, none⟩ = some (.int .i64 f) := Go.Joins.cell_of_block O8.out 3
          have k8_4 : u8.cell? ⟨w.heap.size, 4, none⟩ = some (.bool x) := Go.Joins.cell_of_block O8.out 4
          have k8_5 : u8.cell? ⟨w.heap.size, 5, none⟩ = some (.bool u) := Go.Joins.cell_of_block O8.out 5
          have k8_6 : u8.cell? ⟨w.heap.size, 6, none⟩ = some (.bool z) := Go.Joins.cell_of_block O8.out 6
          have k8_7 : u8.cell? ⟨w.heap.size, 7, none⟩ = some (.bool false) := Go.Joins.cell_of_block O8.out 7
          have k8_8 : u8.cell? ⟨w.heap.size, 8, none⟩ = some (.bool d) := Go.Joins.cell_of_block O8.out 8
          clear hb M7 zz7 k7_0 k7_1 k7_2 k7_3 k7_4 k7_5 k7_6 k7_7 k7_8
          go_wp2_with fail
          refine (AW.out _).mono ?_
          rintro e u9 ⟨rfl, hb⟩
          have B9 : Hid (Below w.heap.size w u9) := ((M8.out.grow (Go.Joins.below_alloc1 _ _)).grow hb).2.1
          have O9 : Hid (u9.heap[w.heap.size]? = some (.cells #[.bool true, .int .i64 t, .int .i64 p, .int .i64 f, .bool x, .bool u, .bool z, .bool false, .bool d] 26 (0, 0))) := (hb.block _ (by simp; omega)).trans (((Go.Joins.below_alloc1 _ _).block _ zz8).trans O8.out)
          have k9_0 : u9.cell? ⟨w.heap.size, 0, none⟩ = some (.bool true) := Go.Joins.cell_of_block O9.out 0
          have k9_1 : u9.cell? ⟨w.heap.size, 1, none⟩ = some (.int .i64 t) := Go.Joins.cell_of_block O9.out 1
          have k9_2 : u9.cell? ⟨w.heap.size, 2, none⟩ = some (.int .i64 p) := Go.Joins.cell_of_block O9.out 2
          have k9_3 : u9.cell? ⟨w.heap.size, 3, none⟩ = some (.int .i64 f) := Go.Joins.cell_of_block O9.out 3
          have k9_4 : u9.cell? ⟨w.heap.size, 4, none⟩ = some (.bool x) := Go.Joins.cell_of_block O9.out 4
          have k9_5 : u9.cell? ⟨w.heap.size, 5, none⟩ = some (.bool u) := Go.Joins.cell_of_block O9.out 5
          have k9_6 : u9.cell? ⟨w.heap.size, 6, none⟩ = some (.bool z) := Go.Joins.cell_of_block O9.out 6
          have k9_7 : u9.cell? ⟨w.heap.size, 7, none⟩ = some (.bool false) := Go.Joins.cell_of_block O9.out 7
          have k9_8 : u9.cell? ⟨w.heap.size, 8, none⟩ = some (.bool d) := Go.Joins.cell_of_block O9.out 8
          clear hb M8 zz8 k8_0 k8_1 k8_2 k8_3 k8_4 k8_5 k8_6 k8_7 k8_8
          go_wp2_with fail
          go_ret
          exact ⟨rfl, B9.out⟩
        · have ne' : (t == a2) = false := by simp [ne]
          have ne2 : (a2 == t) = false := by simp [Ne.symm ne]
          have FI : Hid (∀ W : World, IsTlb W (w.heap.size + 1) T0 → Calls Try.prog 18 #[.pointer (some ⟨w.heap.size + 1, 0, none⟩), .int .i64 y, .agg #[.bool true, .int .i64 t, .int .i64 p, .int .i64 f, .bool x, .bool u, .bool z, .bool false, .bool d]] W fun e w' => e = .returned (.int .i64 0) ∧ IsTlb w' (w.heap.size + 1) (oneT (2 * (p % 8).toNat + y) (⟨true, t, p, f, x, u, z, false, d⟩ : Ln)) ∧ W.grownBy w' (some (w.heap.size + 1))) := fun W h => by
            have hs : (⟨true, t, p, f, x, u, z, false, d⟩ : Ln).p % 8 = (((p % 8).toNat : Nat) : Int) := by show p % 8 = _; omega
            refine (fill_ok (w.heap.size + 1) T0 (⟨true, t, p, f, x, u, z, false, d⟩ : Ln) y (p % 8).toNat hy hok hp hs W h).mono fun e w' ⟨h1, h2, h3⟩ => ⟨h1, h2.congr (fun i hi => ?_), h3⟩
            have := one_fill y (⟨true, t, p, f, x, u, z, false, d⟩ : Ln) i hi
            rw [Int.toNat_natCast] at this
            exact this
          have F1 : Hid (∀ W : World, IsTlb W (w.heap.size + 1) (oneT (2 * (p % 8).toNat + y) (⟨true, t, p, f, x, u, z, false, d⟩ : Ln)) → Calls Try.prog 13 #[.pointer (some ⟨w.heap.size + 1, 0, none⟩), .int .i64 a2, .int .i64 p] W fun e w' => e = .returned (.tuple #[.agg #[.bool false, .int .i64 0, .int .i64 0, .int .i64 0, .bool false, .bool false, .bool false, .bool false, .bool false], .bool false]) ∧ Below W.heap.size W w') := fun W h => by
            have := find_any (w.heap.size + 1) _ a2 p W h
            rw [one_find y hy _ _ _ hp, show (⟨true, t, p, f, x, u, z, false, d⟩ : Ln).fits a2 p = false by simp [Ln.fits, ne]] at this
            exact this
          have TG : Hid (∀ W : World, IsTlb W (w.heap.size + 1) (oneT (2 * (p % 8).toNat + y) (⟨true, t, p, f, x, u, z, false, d⟩ : Ln)) → Calls Try.prog 16 #[.pointer (some ⟨w.heap.size + 1, 0, none⟩), .int .i64 t] W fun e w' => e = .returned (.tuple #[]) ∧ IsTlb w' (w.heap.size + 1) (oneT (2 * (p % 8).toNat + y) Ln.zero) ∧ W.grownBy w' (some (w.heap.size + 1))) := fun W h =>
            (tag_any (w.heap.size + 1) _ t W h).mono fun e w' ⟨h1, h2, h3⟩ => ⟨h1, h2.congr (fun i hi => by rw [one_drop _ _ _ i hi]; simp), h3⟩
          have F2 : Hid (∀ W : World, IsTlb W (w.heap.size + 1) (oneT (2 * (p % 8).toNat + y) Ln.zero) → Calls Try.prog 13 #[.pointer (some ⟨w.heap.size + 1, 0, none⟩), .int .i64 t, .int .i64 p] W fun e w' => e = .returned (.tuple #[.agg #[.bool false, .int .i64 0, .int .i64 0, .int .i64 0, .bool false, .bool false, .bool false, .bool false, .bool false], .bool false]) ∧ Below W.heap.size W w') := fun W h => by
            have := find_any (w.heap.size + 1) _ t p W h
            rw [one_find y hy _ _ _ hp, show Ln.zero.fits _ _ = false from rfl] at this
            exact this
          have A1 : Hid (∀ W : World, IsTlb W (w.heap.size + 1) (oneT (2 * (p % 8).toNat + y) Ln.zero) → Calls Try.prog 17 #[.pointer (some ⟨w.heap.size + 1, 0, none⟩), .bool true] W fun e w' => e = .returned (.tuple #[]) ∧ IsTlb w' (w.heap.size + 1) (oneT (2 * (p % 8).toNat + y) Ln.zero) ∧ W.grownBy w' (some (w.heap.size + 1))) := fun W h =>
            (all_any (w.heap.size + 1) _ true W h).mono fun e w' ⟨h1, h2, h3⟩ => ⟨h1, h2.congr (fun i hi => by rw [one_drop _ _ _ i hi]; simp), h3⟩
          have A2 : Hid (∀ W : World, IsTlb W (w.heap.size + 1) (oneT (2 * (p % 8).toNat + y) Ln.zero) → Calls Try.prog 17 #[.pointer (some ⟨w.heap.size + 1, 0, none⟩), .bool false] W fun e w' => e = .returned (.tuple #[]) ∧ IsTlb w' (w.heap.size + 1) (oneT (2 * (p % 8).toNat + y) Ln.zero) ∧ W.grownBy w' (some (w.heap.size + 1))) := fun W h =>
            (all_any (w.heap.size + 1) _ false W h).mono fun e w' ⟨h1, h2, h3⟩ => ⟨h1, h2.congr (fun i hi => by rw [one_drop _ _ _ i hi]; simp), h3⟩
          have F4 : Hid (∀ W : World, IsTlb W (w.heap.size + 1) (oneT (2 * (p % 8).toNat + y) Ln.zero) → Calls Try.prog 13 #[.pointer (some ⟨w.heap.size + 1, 0, none⟩), .int .i64 t, .int .i64 p] W fun e w' => e = .returned (.tuple #[.agg #[.bool false, .int .i64 0, .int .i64 0, .int .i64 0, .bool false, .bool false, .bool false, .bool false, .bool false], .bool false]) ∧ Below W.heap.size W w') := fun W h => by
            have := find_any (w.heap.size + 1) _ t p W h
            rw [one_find y hy _ _ _ hp, show Ln.zero.fits _ _ = false from rfl] at this
            exact this
          clear hok
          go_enter Try.func6, Try.ntmps6
          go_wp2_with fail
          refine (FI.out _ M.out.1).mono ?_
          rintro e u1 ⟨rfl, h1, h2⟩
          have M1 : Hid (Own w u1 (w.heap.size + 1) (oneT (2 * (p % 8).toNat + y) (⟨true, t, p, f, x, u, z, false, d⟩ : Ln))) := M.out.next h1 h2
          have O1 : Hid (u1.heap[w.heap.size]? = some (.cells #[.bool true, .int .i64 t, .int .i64 p, .int .i64 f, .bool x, .bool u, .bool z, .bool false, .bool d] 26 (0, 0))) := (h2.block _ (by simp; omega) (fun e => by have := Option.some.inj e; omega)).trans (own2a w _ _)
          have zz1 : w.heap.size < u1.heap.size := Nat.lt_of_lt_of_le (by simp; omega) h2.size
          have k1_0 : u1.cell? ⟨w.heap.size, 0, none⟩ = some (.bool true) := Go.Joins.cell_of_block O1.out 0
          have k1_1 : u1.cell? ⟨w.heap.size, 1, none⟩ = some (.int .i64 t) := Go.Joins.cell_of_block O1.out 1
          have k1_2 : u1.cell? ⟨w.heap.size, 2, none⟩ = some (.int .i64 p) := Go.Joins.cell_of_block O1.out 2
          have k1_3 : u1.cell? ⟨w.heap.size, 3, none⟩ = some (.int .i64 f) := Go.Joins.cell_of_block O1.out 3
          have k1_4 : u1.cell? ⟨w.heap.size, 4, none⟩ = some (.bool x) := Go.Joins.cell_of_block O1.out 4
          have k1_5 : u1.cell? ⟨w.heap.size, 5, none⟩ = some (.bool u) := Go.Joins.cell_of_block O1.out 5
          have k1_6 : u1.cell? ⟨w.heap.size, 6, none⟩ = some (.bool z) := Go.Joins.cell_of_block O1.out 6
          have k1_7 : u1.cell? ⟨w.heap.size, 7, none⟩ = some (.bool false) := Go.Joins.cell_of_block O1.out 7
          have k1_8 : u1.cell? ⟨w.heap.size, 8, none⟩ = some (.bool d) := Go.Joins.cell_of_block O1.out 8
          clear h1 h2 M
          go_wp2_with fail
          refine (F1.out _ M1.out.1).mono ?_
          rintro e u2 ⟨rfl, hb⟩
          have M2 : Hid (Own w u2 (w.heap.size + 1) (oneT (2 * (p % 8).toNat + y) (⟨true, t, p, f, x, u, z, false, d⟩ : Ln))) := M1.out.grow hb
          have O2 : Hid (u2.heap[w.heap.size]? = some (.cells #[.bool true, .int .i64 t, .int .i64 p, .int .i64 f, .bool x, .bool u, .bool z, .bool false, .bool d] 26 (0, 0))) := (hb.block _ (by exact zz1)).trans (O1.out)
          have zz2 : w.heap.size < u2.heap.size := Nat.lt_of_lt_of_le (by exact zz1) hb.size
          have k2_0 : u2.cell? ⟨w.heap.size, 0, none⟩ = some (.bool true) := Go.Joins.cell_of_block O2.out 0
          have k2_1 : u2.cell? ⟨w.heap.size, 1, none⟩ = some (.int .i64 t) := Go.Joins.cell_of_block O2.out 1
          have k2_2 : u2.cell? ⟨w.heap.size, 2, none⟩ = some (.int .i64 p) := Go.Joins.cell_of_block O2.out 2
          have k2_3 : u2.cell? ⟨w.heap.size, 3, none⟩ = some (.int .i64 f) := Go.Joins.cell_of_block O2.out 3
          have k2_4 : u2.cell? ⟨w.heap.size, 4, none⟩ = some (.bool x) := Go.Joins.cell_of_block O2.out 4
          have k2_5 : u2.cell? ⟨w.heap.size, 5, none⟩ = some (.bool u) := Go.Joins.cell_of_block O2.out 5
          have k2_6 : u2.cell? ⟨w.heap.size, 6, none⟩ = some (.bool z) := Go.Joins.cell_of_block O2.out 6
          have k2_7 : u2.cell? ⟨w.heap.size, 7, none⟩ = some (.bool false) := Go.Joins.cell_of_block O2.out 7
          have k2_8 : u2.cell? ⟨w.heap.size, 8, none⟩ = some (.bool d) := Go.Joins.cell_of_block O2.out 8
          clear hb M1 zz1 k1_0 k1_1 k1_2 k1_3 k1_4 k1_5 k1_6 k1_7 k1_8
          go_wp2_with fail
          refine (TG.out _ (M2.out.grow (Go.Joins.below_alloc1 _ _)).1).mono ?_
          rintro e u3 ⟨rfl, h1, h2⟩
          have M3 : Hid (Own w u3 (w.heap.size + 1) (oneT (2 * (p % 8).toNat + y) Ln.zero)) := (M2.out.grow (Go.Joins.below_alloc1 _ _)).next h1 h2
          have O3 : Hid (u3.heap[w.heap.size]? = some (.cells #[.bool true, .int .i64 t, .int .i64 p, .int .i64 f, .bool x, .bool u, .bool z, .bool false, .bool d] 26 (0, 0))) := (h2.block _ (by simp; omega) (fun e => by have := Option.some.inj e; omega)).trans (((Go.Joins.below_alloc1 _ _).block _ zz2).trans O2.out)
          have zz3 : w.heap.size < u3.heap.size := Nat.lt_of_lt_of_le (by simp; omega) h2.size
          have k3_0 : u3.cell? ⟨w.heap.size, 0, none⟩ = some (.bool true) := Go.Joins.cell_of_block O3.out 0
          have k3_1 : u3.cell? ⟨w.heap.size, 1, none⟩ = some (.int .i64 t) := Go.Joins.cell_of_block O3.out 1
          have k3_2 : u3.cell? ⟨w.heap.size, 2, none⟩ = some (.int .i64 p) := Go.Joins.cell_of_block O3.out 2
          have k3_3 : u3.cell? ⟨w.heap.size, 3, none⟩ = some (.int .i64 f) := Go.Joins.cell_of_block O3.out 3
          have k3_4 : u3.cell? ⟨w.heap.size, 4, none⟩ = some (.bool x) := Go.Joins.cell_of_block O3.out 4
          have k3_5 : u3.cell? ⟨w.heap.size, 5, none⟩ = some (.bool u) := Go.Joins.cell_of_block O3.out 5
          have k3_6 : u3.cell? ⟨w.heap.size, 6, none⟩ = some (.bool z) := Go.Joins.cell_of_block O3.out 6
          have k3_7 : u3.cell? ⟨w.heap.size, 7, none⟩ = some (.bool false) := Go.Joins.cell_of_block O3.out 7
          have k3_8 : u3.cell? ⟨w.heap.size, 8, none⟩ = some (.bool d) := Go.Joins.cell_of_block O3.out 8
          clear h1 h2 M2 zz2 k2_0 k2_1 k2_2 k2_3 k2_4 k2_5 k2_6 k2_7 k2_8
          go_wp2_with fail
          refine (F2.out _ M3.out.1).mono ?_
          rintro e u4 ⟨rfl, hb⟩
          have M4 : Hid (Own w u4 (w.heap.size + 1) (oneT (2 * (p % 8).toNat + y) Ln.zero)) := M3.out.grow hb
          have O4 : Hid (u4.heap[w.heap.size]? = some (.cells #[.bool true, .int .i64 t, .int .i64 p, .int .i64 f, .bool x, .bool u, .bool z, .bool false, .bool d] 26 (0, 0))) := (hb.block _ (by exact zz3)).trans (O3.out)
          have zz4 : w.heap.size < u4.heap.size := Nat.lt_of_lt_of_le (by exact zz3) hb.size
          have k4_0 : u4.cell? ⟨w.heap.size, 0, none⟩ = some (.bool true) := Go.Joins.cell_of_block O4.out 0
          have k4_1 : u4.cell? ⟨w.heap.size, 1, none⟩ = some (.int .i64 t) := Go.Joins.cell_of_block O4.out 1
          have k4_2 : u4.cell? ⟨w.heap.size, 2, none⟩ = some (.int .i64 p) := Go.Joins.cell_of_block O4.out 2
          have k4_3 : u4.cell? ⟨w.heap.size, 3, none⟩ = some (.int .i64 f) := Go.Joins.cell_of_block O4.out 3
          have k4_4 : u4.cell? ⟨w.heap.size, 4, none⟩ = some (.bool x) := Go.Joins.cell_of_block O4.out 4
          have k4_5 : u4.cell? ⟨w.heap.size, 5, none⟩ = some (.bool u) := Go.Joins.cell_of_block O4.out 5
          have k4_6 : u4.cell? ⟨w.heap.size, 6, none⟩ = some (.bool z) := Go.Joins.cell_of_block O4.out 6
          have k4_7 : u4.cell? ⟨w.heap.size, 7, none⟩ = some (.bool false) := Go.Joins.cell_of_block O4.out 7
          have k4_8 : u4.cell? ⟨w.heap.size, 8, none⟩ = some (.bool d) := Go.Joins.cell_of_block O4.out 8
          clear hb M3 zz3 k3_0 k3_1 k3_2 k3_3 k3_4 k3_5 k3_6 k3_7 k3_8
          go_wp2_with fail
          refine (A1.out _ (M4.out.grow (Go.Joins.below_alloc1 _ _)).1).mono ?_
          rintro e u5 ⟨rfl, h1, h2⟩
          have M5 : Hid (Own w u5 (w.heap.size + 1) (oneT (2 * (p % 8).toNat + y) Ln.zero)) := (M4.out.grow (Go.Joins.below_alloc1 _ _)).next h1 h2
          have O5 : Hid (u5.heap[w.heap.size]? = some (.cells #[.bool true, .int .i64 t, .int .i64 p, .int .i64 f, .bool x, .bool u, .bool z, .bool false, .bool d] 26 (0, 0))) := (h2.block _ (by simp; omega) (fun e => by have := Option.some.inj e; omega)).trans (((Go.Joins.below_alloc1 _ _).block _ zz4).trans O4.out)
          have zz5 : w.heap.size < u5.heap.size := Nat.lt_of_lt_of_le (by simp; omega) h2.size
          have k5_0 : u5.cell? ⟨w.heap.size, 0, none⟩ = some (.bool true) := Go.Joins.cell_of_block O5.out 0
          have k5_1 : u5.cell? ⟨w.heap.size, 1, none⟩ = some (.int .i64 t) := Go.Joins.cell_of_block O5.out 1
          have k5_2 : u5.cell? ⟨w.heap.size, 2, none⟩ = some (.int .i64 p) := Go.Joins.cell_of_block O5.out 2
          have k5_3 : u5.cell? ⟨w.heap.size, 3, none⟩ = some (.int .i64 f) := Go.Joins.cell_of_block O5.out 3
          have k5_4 : u5.cell? ⟨w.heap.size, 4, none⟩ = some (.bool x) := Go.Joins.cell_of_block O5.out 4
          have k5_5 : u5.cell? ⟨w.heap.size, 5, none⟩ = some (.bool u) := Go.Joins.cell_of_block O5.out 5
          have k5_6 : u5.cell? ⟨w.heap.size, 6, none⟩ = some (.bool z) := Go.Joins.cell_of_block O5.out 6
          have k5_7 : u5.cell? ⟨w.heap.size, 7, none⟩ = some (.bool false) := Go.Joins.cell_of_block O5.out 7
          have k5_8 : u5.cell? ⟨w.heap.size, 8, none⟩ = some (.bool d) := Go.Joins.cell_of_block O5.out 8
          clear h1 h2 M4 zz4 k4_0 k4_1 k4_2 k4_3 k4_4 k4_5 k4_6 k4_7 k4_8
          go_wp2_with fail
          refine (F2.out _ M5.out.1).mono ?_
          rintro e u6 ⟨rfl, hb⟩
          have M6 : Hid (Own w u6 (w.heap.size + 1) (oneT (2 * (p % 8).toNat + y) Ln.zero)) := M5.out.grow hb
          have O6 : Hid (u6.heap[w.heap.size]? = some (.cells #[.bool true, .int .i64 t, .int .i64 p, .int .i64 f, .bool x, .bool u, .bool z, .bool false, .bool d] 26 (0, 0))) := (hb.block _ (by exact zz5)).trans (O5.out)
          have zz6 : w.heap.size < u6.heap.size := Nat.lt_of_lt_of_le (by exact zz5) hb.size
          have k6_0 : u6.cell? ⟨w.heap.size, 0, none⟩ = some (.bool true) := Go.Joins.cell_of_block O6.out 0
          have k6_1 : u6.cell? ⟨w.heap.size, 1, none⟩ = some (.int .i64 t) := Go.Joins.cell_of_block O6.out 1
          have k6_2 : u6.cell? ⟨w.heap.size, 2, none⟩ = some (.int .i64 p) := Go.Joins.cell_of_block O6.out 2
          have k6_3 : u6.cell? ⟨w.heap.size, 3, none⟩ = some (.int .i64 f) := Go.Joins.cell_of_block O6.out 3
          have k6_4 : u6.cell? ⟨w.heap.size, 4, none⟩ = some (.bool x) := Go.Joins.cell_of_block O6.out 4
          have k6_5 : u6.cell? ⟨w.heap.size, 5, none⟩ = some (.bool u) := Go.Joins.cell_of_block O6.out 5
          have k6_6 : u6.cell? ⟨w.heap.size, 6, none⟩ = some (.bool z) := Go.Joins.cell_of_block O6.out 6
          have k6_7 : u6.cell? ⟨w.heap.size, 7, none⟩ = some (.bool false) := Go.Joins.cell_of_block O6.out 7
          have k6_8 : u6.cell? ⟨w.heap.size, 8, none⟩ = some (.bool d) := Go.Joins.cell_of_block O6.out 8
          clear hb M5 zz5 k5_0 k5_1 k5_2 k5_3 k5_4 k5_5 k5_6 k5_7 k5_8
          go_wp2_with fail
          refine (A2.out _ (M6.out.grow (Go.Joins.below_alloc1 _ _)).1).mono ?_
          rintro e u7 ⟨rfl, h1, h2⟩
          have M7 : Hid (Own w u7 (w.heap.size + 1) (oneT (2 * (p % 8).toNat + y) Ln.zero)) := (M6.out.grow (Go.Joins.below_alloc1 _ _)).next h1 h2
          have O7 : Hid (u7.heap[w.heap.size]? = some (.cells #[.bool true, .int .i64 t, .int .i64 p, .int .i64 f, .bool x, .bool u, .bool z, .bool false, .bool d] 26 (0, 0))) := (h2.block _ (by simp; omega) (fun e => by have := Option.some.inj e; omega)).trans (((Go.Joins.below_alloc1 _ _).block _ zz6).trans O6.out)
          have zz7 : w.heap.size < u7.heap.size := Nat.lt_of_lt_of_le (by simp; omega) h2.size
          have k7_0 : u7.cell? ⟨w.heap.size, 0, none⟩ = some (.bool true) := Go.Joins.cell_of_block O7.out 0
          have k7_1 : u7.cell? ⟨w.heap.size, 1, none⟩ = some (.int .i64 t) := Go.Joins.cell_of_block O7.out 1
          have k7_2 : u7.cell? ⟨w.heap.size, 2, none⟩ = some (.int .i64 p) := Go.Joins.cell_of_block O7.out 2
          have k7_3 : u7.cell? ⟨w.heap.size, 3, none⟩ = some (.int .i64 f) := Go.Joins.cell_of_block O7.out 3
          have k7_4 : u7.cell? ⟨w.heap.size, 4, none⟩ = some (.bool x) := Go.Joins.cell_of_block O7.out 4
          have k7_5 : u7.cell? ⟨w.heap.size, 5, none⟩ = some (.bool u) := Go.Joins.cell_of_block O7.out 5
          have k7_6 : u7.cell? ⟨w.heap.size, 6, none⟩ = some (.bool z) := Go.Joins.cell_of_block O7.out 6
          have k7_7 : u7.cell? ⟨w.heap.size, 7, none⟩ = some (.bool false) := Go.Joins.cell_of_block O7.out 7
          have k7_8 : u7.cell? ⟨w.heap.size, 8, none⟩ = some (.bool d) := Go.Joins.cell_of_block O7.out 8
          clear h1 h2 M6 zz6 k6_0 k6_1 k6_2 k6_3 k6_4 k6_5 k6_6 k6_7 k6_8
          go_wp2_with fail
          refine (F4.out _ M7.out.1).mono ?_
          rintro e u8 ⟨rfl, hb⟩
          have M8 : Hid (Own w u8 (w.heap.size + 1) (oneT (2 * (p % 8).toNat + y) Ln.zero)) := M7.out.grow hb
          have O8 : Hid (u8.heap[w.heap.size]? = some (.cells #[.bool true, .int .i64 t, .int .i64 p, .int .i64 f, .bool x, .bool u, .bool z, .bool false, .bool d] 26 (0, 0))) := (hb.block _ (by exact zz7)).trans (O7.out)
          have zz8 : w.heap.size < u8.heap.size := Nat.lt_of_lt_of_le (by exact zz7) hb.size
          have k8_0 : u8.cell? ⟨w.heap.size, 0, none⟩ = some (.bool true) := Go.Joins.cell_of_block O8.out 0
          have k8_1 : u8.cell? ⟨w.heap.size, 1, none⟩ = some (.int .i64 t) := Go.Joins.cell_of_block O8.out 1
          have k8_2 : u8.cell? ⟨w.heap.size, 2, none⟩ = some (.int .i64 p) := Go.Joins.cell_of_block O8.out 2
          have k8_3 : u8.cell? ⟨w.heap.size, 3, none⟩ = some (.int .i64 f) := Go.Joins.cell_of_block O8.out 3
          have k8_4 : u8.cell? ⟨w.heap.size, 4, none⟩ = some (.bool x) := Go.Joins.cell_of_block O8.out 4
          have k8_5 : u8.cell? ⟨w.heap.size, 5, none⟩ = some (.bool u) := Go.Joins.cell_of_block O8.out 5
          have k8_6 : u8.cell? ⟨w.heap.size, 6, none⟩ = some (.bool z) := Go.Joins.cell_of_block O8.out 6
          have k8_7 : u8.cell? ⟨w.heap.size, 7, none⟩ = some (.bool false) := Go.Joins.cell_of_block O8.out 7
          have k8_8 : u8.cell? ⟨w.heap.size, 8, none⟩ = some (.bool d) := Go.Joins.cell_of_block O8.out 8
          clear hb M7 zz7 k7_0 k7_1 k7_2 k7_3 k7_4 k7_5 k7_6 k7_7 k7_8
          go_wp2_with fail
          refine (AW.out _).mono ?_
          rintro e u9 ⟨rfl, hb⟩
          have B9 : Hid (Below w.heap.size w u9) := ((M8.out.grow (Go.Joins.below_alloc1 _ _)).grow hb).2.1
          have O9 : Hid (u9.heap[w.heap.size]? = some (.cells #[.bool true, .int .i64 t, .int .i64 p, .int .i64 f, .bool x, .bool u, .bool z, .bool false, .bool d] 26 (0, 0))) := (hb.block _ (by simp; omega)).trans (((Go.Joins.below_alloc1 _ _).block _ zz8).trans O8.out)
          have k9_0 : u9.cell? ⟨w.heap.size, 0, none⟩ = some (.bool true) := Go.Joins.cell_of_block O9.out 0
          have k9_1 : u9.cell? ⟨w.heap.size, 1, none⟩ = some (.int .i64 t) := Go.Joins.cell_of_block O9.out 1
          have k9_2 : u9.cell? ⟨w.heap.size, 2, none⟩ = some (.int .i64 p) := Go.Joins.cell_of_block O9.out 2
          have k9_3 : u9.cell? ⟨w.heap.size, 3, none⟩ = some (.int .i64 f) := Go.Joins.cell_of_block O9.out 3
          have k9_4 : u9.cell? ⟨w.heap.size, 4, none⟩ = some (.bool x) := Go.Joins.cell_of_block O9.out 4
          have k9_5 : u9.cell? ⟨w.heap.size, 5, none⟩ = some (.bool u) := Go.Joins.cell_of_block O9.out 5
          have k9_6 : u9.cell? ⟨w.heap.size, 6, none⟩ = some (.bool z) := Go.Joins.cell_of_block O9.out 6
          have k9_7 : u9.cell? ⟨w.heap.size, 7, none⟩ = some (.bool false) := Go.Joins.cell_of_block O9.out 7
          have k9_8 : u9.cell? ⟨w.heap.size, 8, none⟩ = some (.bool d) := Go.Joins.cell_of_block O9.out 8
          clear hb M8 zz8 k8_0 k8_1 k8_2 k8_3 k8_4 k8_5 k8_6 k8_7 k8_8
          go_wp2_with fail
          go_ret
          exact ⟨rfl, B9.out⟩
      · by_cases ne : t = a2
        · subst ne
          have FI : Hid (∀ W : World, IsTlb W (w.heap.size + 1) T0 → Calls Try.prog 18 #[.pointer (some ⟨w.heap.size + 1, 0, none⟩), .int .i64 y, .agg #[.bool true, .int .i64 t, .int .i64 p, .int .i64 f, .bool x, .bool u, .bool z, .bool true, .bool d]] W fun e w' => e = .returned (.int .i64 0) ∧ IsTlb w' (w.heap.size + 1) (oneT (2 * (p % 8).toNat + y) (⟨true, t, p, f, x, u, z, true, d⟩ : Ln)) ∧ W.grownBy w' (some (w.heap.size + 1))) := fun W h => by
            have hs : (⟨true, t, p, f, x, u, z, true, d⟩ : Ln).p % 8 = (((p % 8).toNat : Nat) : Int) := by show p % 8 = _; omega
            refine (fill_ok (w.heap.size + 1) T0 (⟨true, t, p, f, x, u, z, true, d⟩ : Ln) y (p % 8).toNat hy hok hp hs W h).mono fun e w' ⟨h1, h2, h3⟩ => ⟨h1, h2.congr (fun i hi => ?_), h3⟩
            have := one_fill y (⟨true, t, p, f, x, u, z, true, d⟩ : Ln) i hi
            rw [Int.toNat_natCast] at this
            exact this
          have F1 : Hid (∀ W : World, IsTlb W (w.heap.size + 1) (oneT (2 * (p % 8).toNat + y) (⟨true, t, p, f, x, u, z, true, d⟩ : Ln)) → Calls Try.prog 13 #[.pointer (some ⟨w.heap.size + 1, 0, none⟩), .int .i64 t, .int .i64 p] W fun e w' => e = .returned (.tuple #[.agg #[.bool true, .int .i64 t, .int .i64 p, .int .i64 f, .bool x, .bool u, .bool z, .bool true, .bool d], .bool true]) ∧ Below W.heap.size W w') := fun W h => by
            have := find_any (w.heap.size + 1) _ t p W h
            rw [one_find y hy _ _ _ hp, show (⟨true, t, p, f, x, u, z, true, d⟩ : Ln).fits t p = true by simp [Ln.fits]] at this
            exact this
          have TG : Hid (∀ W : World, IsTlb W (w.heap.size + 1) (oneT (2 * (p % 8).toNat + y) (⟨true, t, p, f, x, u, z, true, d⟩ : Ln)) → Calls Try.prog 16 #[.pointer (some ⟨w.heap.size + 1, 0, none⟩), .int .i64 t] W fun e w' => e = .returned (.tuple #[]) ∧ IsTlb w' (w.heap.size + 1) (oneT (2 * (p % 8).toNat + y) (⟨true, t, p, f, x, u, z, true, d⟩ : Ln)) ∧ W.grownBy w' (some (w.heap.size + 1))) := fun W h =>
            (tag_any (w.heap.size + 1) _ t W h).mono fun e w' ⟨h1, h2, h3⟩ => ⟨h1, h2.congr (fun i hi => by rw [one_drop _ _ _ i hi]; simp), h3⟩
          have F2 : Hid (∀ W : World, IsTlb W (w.heap.size + 1) (oneT (2 * (p % 8).toNat + y) (⟨true, t, p, f, x, u, z, true, d⟩ : Ln)) → Calls Try.prog 13 #[.pointer (some ⟨w.heap.size + 1, 0, none⟩), .int .i64 t, .int .i64 p] W fun e w' => e = .returned (.tuple #[.agg #[.bool true, .int .i64 t, .int .i64 p, .int .i64 f, .bool x, .bool u, .bool z, .bool true, .bool d], .bool true]) ∧ Below W.heap.size W w') := fun W h => by
            have := find_any (w.heap.size + 1) _ t p W h
            rw [one_find y hy _ _ _ hp, show (⟨true, t, p, f, x, u, z, true, d⟩ : Ln).fits t p = true by simp [Ln.fits]] at this
            exact this
          have A1 : Hid (∀ W : World, IsTlb W (w.heap.size + 1) (oneT (2 * (p % 8).toNat + y) (⟨true, t, p, f, x, u, z, true, d⟩ : Ln)) → Calls Try.prog 17 #[.pointer (some ⟨w.heap.size + 1, 0, none⟩), .bool true] W fun e w' => e = .returned (.tuple #[]) ∧ IsTlb w' (w.heap.size + 1) (oneT (2 * (p % 8).toNat + y) (⟨true, t, p, f, x, u, z, true, d⟩ : Ln)) ∧ W.grownBy w' (some (w.heap.size + 1))) := fun W h =>
            (all_any (w.heap.size + 1) _ true W h).mono fun e w' ⟨h1, h2, h3⟩ => ⟨h1, h2.congr (fun i hi => by rw [one_drop _ _ _ i hi]; simp), h3⟩
          have A2 : Hid (∀ W : World, IsTlb W (w.heap.size + 1) (oneT (2 * (p % 8).toNat + y) (⟨true, t, p, f, x, u, z, true, d⟩ : Ln)) → Calls Try.prog 17 #[.pointer (some ⟨w.heap.size + 1, 0, none⟩), .bool false] W fun e w' => e = .returned (.tuple #[]) ∧ IsTlb w' (w.heap.size + 1) (oneT (2 * (p % 8).toNat + y) Ln.zero) ∧ W.grownBy w' (some (w.heap.size + 1))) := fun W h =>
            (all_any (w.heap.size + 1) _ false W h).mono fun e w' ⟨h1, h2, h3⟩ => ⟨h1, h2.congr (fun i hi => by rw [one_drop _ _ _ i hi]; simp), h3⟩
          have F4 : Hid (∀ W : World, IsTlb W (w.heap.size + 1) (oneT (2 * (p % 8).toNat + y) Ln.zero) → Calls Try.prog 13 #[.pointer (some ⟨w.heap.size + 1, 0, none⟩), .int .i64 t, .int .i64 p] W fun e w' => e = .returned (.tuple #[.agg #[.bool false, .int .i64 0, .int .i64 0, .int .i64 0, .bool false, .bool false, .bool false, .bool false, .bool false], .bool false]) ∧ Below W.heap.size W w') := fun W h => by
            have := find_any (w.heap.size + 1) _ t p W h
            rw [one_find y hy _ _ _ hp, show Ln.zero.fits _ _ = false from rfl] at this
            exact this
          clear hok
          go_enter Try.func6, Try.ntmps6
          go_wp2_with fail
          refine (FI.out _ M.out.1).mono ?_
          rintro e u1 ⟨rfl, h1, h2⟩
          have M1 : Hid (Own w u1 (w.heap.size + 1) (oneT (2 * (p % 8).toNat + y) (⟨true, t, p, f, x, u, z, true, d⟩ : Ln))) := M.out.next h1 h2
          have O1 : Hid (u1.heap[w.heap.size]? = some (.cells #[.bool true, .int .i64 t, .int .i64 p, .int .i64 f, .bool x, .bool u, .bool z, .bool true, .bool d] 26 (0, 0))) := (h2.block _ (by simp; omega) (fun e => by have := Option.some.inj e; omega)).trans (own2a w _ _)
          have zz1 : w.heap.size < u1.heap.size := Nat.lt_of_lt_of_le (by simp; omega) h2.size
          have k1_0 : u1.cell? ⟨w.heap.size, 0, none⟩ = some (.bool true) := Go.Joins.cell_of_block O1.out 0
          have k1_1 : u1.cell? ⟨w.heap.size, 1, none⟩ = some (.int .i64 t) := Go.Joins.cell_of_block O1.out 1
          have k1_2 : u1.cell? ⟨w.heap.size, 2, none⟩ = some (.int .i64 p) := Go.Joins.cell_of_block O1.out 2
          have k1_3 : u1.cell? ⟨w.heap.size, 3, none⟩ = some (.int .i64 f) := Go.Joins.cell_of_block O1.out 3
          have k1_4 : u1.cell? ⟨w.heap.size, 4, none⟩ = some (.bool x) := Go.Joins.cell_of_block O1.out 4
          have k1_5 : u1.cell? ⟨w.heap.size, 5, none⟩ = some (.bool u) := Go.Joins.cell_of_block O1.out 5
          have k1_6 : u1.cell? ⟨w.heap.size, 6, none⟩ = some (.bool z) := Go.Joins.cell_of_block O1.out 6
          have k1_7 : u1.cell? ⟨w.heap.size, 7, none⟩ = some (.bool true) := Go.Joins.cell_of_block O1.out 7
          have k1_8 : u1.cell? ⟨w.heap.size, 8, none⟩ = some (.bool d) := Go.Joins.cell_of_block O1.out 8
          clear h1 h2 M
          go_wp2_with fail
          refine (F1.out _ M1.out.1).mono ?_
          rintro e u2 ⟨rfl, hb⟩
          have M2 : Hid (Own w u2 (w.heap.size + 1) (oneT (2 * (p % 8).toNat + y) (⟨true, t, p, f, x, u, z, true, d⟩ : Ln))) := M1.out.grow hb
          have O2 : Hid (u2.heap[w.heap.size]? = some (.cells #[.bool true, .int .i64 t, .int .i64 p, .int .i64 f, .bool x, .bool u, .bool z, .bool true, .bool d] 26 (0, 0))) := (hb.block _ (by exact zz1)).trans (O1.out)
          have zz2 : w.heap.size < u2.heap.size := Nat.lt_of_lt_of_le (by exact zz1) hb.size
          have k2_0 : u2.cell? ⟨w.heap.size, 0, none⟩ = some (.bool true) := Go.Joins.cell_of_block O2.out 0
          have k2_1 : u2.cell? ⟨w.heap.size, 1, none⟩ = some (.int .i64 t) := Go.Joins.cell_of_block O2.out 1
          have k2_2 : u2.cell? ⟨w.heap.size, 2, none⟩ = some (.int .i64 p) := Go.Joins.cell_of_block O2.out 2
          have k2_3 : u2.cell? ⟨w.heap.size, 3, none⟩ = some (.int .i64 f) := Go.Joins.cell_of_block O2.out 3
          have k2_4 : u2.cell? ⟨w.heap.size, 4, none⟩ = some (.bool x) := Go.Joins.cell_of_block O2.out 4
          have k2_5 : u2.cell? ⟨w.heap.size, 5, none⟩ = some (.bool u) := Go.Joins.cell_of_block O2.out 5
          have k2_6 : u2.cell? ⟨w.heap.size, 6, none⟩ = some (.bool z) := Go.Joins.cell_of_block O2.out 6
          have k2_7 : u2.cell? ⟨w.heap.size, 7, none⟩ = some (.bool true) := Go.Joins.cell_of_block O2.out 7
          have k2_8 : u2.cell? ⟨w.heap.size, 8, none⟩ = some (.bool d) := Go.Joins.cell_of_block O2.out 8
          clear hb M1 zz1 k1_0 k1_1 k1_2 k1_3 k1_4 k1_5 k1_6 k1_7 k1_8
          go_wp2_with fail
          refine (TG.out _ (M2.out.grow (Go.Joins.below_alloc1 _ _)).1).mono ?_
          rintro e u3 ⟨rfl, h1, h2⟩
          have M3 : Hid (Own w u3 (w.heap.size + 1) (oneT (2 * (p % 8).toNat + y) (⟨true, t, p, f, x, u, z, true, d⟩ : Ln))) := (M2.out.grow (Go.Joins.below_alloc1 _ _)).next h1 h2
          have O3 : Hid (u3.heap[w.heap.size]? = some (.cells #[.bool true, .int .i64 t, .int .i64 p, .int .i64 f, .bool x, .bool u, .bool z, .bool true, .bool d] 26 (0, 0))) := (h2.block _ (by simp; omega) (fun e => by have := Option.some.inj e; omega)).trans (((Go.Joins.below_alloc1 _ _).block _ zz2).trans O2.out)
          have zz3 : w.heap.size < u3.heap.size := Nat.lt_of_lt_of_le (by simp; omega) h2.size
          have k3_0 : u3.cell? ⟨w.heap.size, 0, none⟩ = some (.bool true) := Go.Joins.cell_of_block O3.out 0
          have k3_1 : u3.cell? ⟨w.heap.size, 1, none⟩ = some (.int .i64 t) := Go.Joins.cell_of_block O3.out 1
          have k3_2 : u3.cell? ⟨w.heap.size, 2, none⟩ = some (.int .i64 p) := Go.Joins.cell_of_block O3.out 2
          have k3_3 : u3.cell? ⟨w.heap.size, 3, none⟩ = some (.int .i64 f) := Go.Joins.cell_of_block O3.out 3
          have k3_4 : u3.cell? ⟨w.heap.size, 4, none⟩ = some (.bool x) := Go.Joins.cell_of_block O3.out 4
          have k3_5 : u3.cell? ⟨w.heap.size, 5, none⟩ = some (.bool u) := Go.Joins.cell_of_block O3.out 5
          have k3_6 : u3.cell? ⟨w.heap.size, 6, none⟩ = some (.bool z) := Go.Joins.cell_of_block O3.out 6
          have k3_7 : u3.cell? ⟨w.heap.size, 7, none⟩ = some (.bool true) := Go.Joins.cell_of_block O3.out 7
          have k3_8 : u3.cell? ⟨w.heap.size, 8, none⟩ = some (.bool d) := Go.Joins.cell_of_block O3.out 8
          clear h1 h2 M2 zz2 k2_0 k2_1 k2_2 k2_3 k2_4 k2_5 k2_6 k2_7 k2_8
          go_wp2_with fail
          refine (F2.out _ M3.out.1).mono ?_
          rintro e u4 ⟨rfl, hb⟩
          have M4 : Hid (Own w u4 (w.heap.size + 1) (oneT (2 * (p % 8).toNat + y) (⟨true, t, p, f, x, u, z, true, d⟩ : Ln))) := M3.out.grow hb
          have O4 : Hid (u4.heap[w.heap.size]? = some (.cells #[.bool true, .int .i64 t, .int .i64 p, .int .i64 f, .bool x, .bool u, .bool z, .bool true, .bool d] 26 (0, 0))) := (hb.block _ (by exact zz3)).trans (O3.out)
          have zz4 : w.heap.size < u4.heap.size := Nat.lt_of_lt_of_le (by exact zz3) hb.size
          have k4_0 : u4.cell? ⟨w.heap.size, 0, none⟩ = some (.bool true) := Go.Joins.cell_of_block O4.out 0
          have k4_1 : u4.cell? ⟨w.heap.size, 1, none⟩ = some (.int .i64 t) := Go.Joins.cell_of_block O4.out 1
          have k4_2 : u4.cell? ⟨w.heap.size, 2, none⟩ = some (.int .i64 p) := Go.Joins.cell_of_block O4.out 2
          have k4_3 : u4.cell? ⟨w.heap.size, 3, none⟩ = some (.int .i64 f) := Go.Joins.cell_of_block O4.out 3
          have k4_4 : u4.cell? ⟨w.heap.size, 4, none⟩ = some (.bool x) := Go.Joins.cell_of_block O4.out 4
          have k4_5 : u4.cell? ⟨w.heap.size, 5, none⟩ = some (.bool u) := Go.Joins.cell_of_block O4.out 5
          have k4_6 : u4.cell? ⟨w.heap.size, 6, none⟩ = some (.bool z) := Go.Joins.cell_of_block O4.out 6
          have k4_7 : u4.cell? ⟨w.heap.size, 7, none⟩ = some (.bool true) := Go.Joins.cell_of_block O4.out 7
          have k4_8 : u4.cell? ⟨w.heap.size, 8, none⟩ = some (.bool d) := Go.Joins.cell_of_block O4.out 8
          clear hb M3 zz3 k3_0 k3_1 k3_2 k3_3 k3_4 k3_5 k3_6 k3_7 k3_8
          go_wp2_with fail
          refine (A1.out _ (M4.out.grow (Go.Joins.below_alloc1 _ _)).1).mono ?_
          rintro e u5 ⟨rfl, h1, h2⟩
          have M5 : Hid (Own w u5 (w.heap.size + 1) (oneT (2 * (p % 8).toNat + y) (⟨true, t, p, f, x, u, z, true, d⟩ : Ln))) := (M4.out.grow (Go.Joins.below_alloc1 _ _)).next h1 h2
          have O5 : Hid (u5.heap[w.heap.size]? = some (.cells #[.bool true, .int .i64 t, .int .i64 p, .int .i64 f, .bool x, .bool u, .bool z, .bool true, .bool d] 26 (0, 0))) := (h2.block _ (by simp; omega) (fun e => by have := Option.some.inj e; omega)).trans (((Go.Joins.below_alloc1 _ _).block _ zz4).trans O4.out)
          have zz5 : w.heap.size < u5.heap.size := Nat.lt_of_lt_of_le (by simp; omega) h2.size
          have k5_0 : u5.cell? ⟨w.heap.size, 0, none⟩ = some (.bool true) := Go.Joins.cell_of_block O5.out 0
          have k5_1 : u5.cell? ⟨w.heap.size, 1, none⟩ = some (.int .i64 t) := Go.Joins.cell_of_block O5.out 1
          have k5_2 : u5.cell? ⟨w.heap.size, 2, none⟩ = some (.int .i64 p) := Go.Joins.cell_of_block O5.out 2
          have k5_3 : u5.cell? ⟨w.heap.size, 3, none⟩ = some (.int .i64 f) := Go.Joins.cell_of_block O5.out 3
          have k5_4 : u5.cell? ⟨w.heap.size, 4, none⟩ = some (.bool x) := Go.Joins.cell_of_block O5.out 4
          have k5_5 : u5.cell? ⟨w.heap.size, 5, none⟩ = some (.bool u) := Go.Joins.cell_of_block O5.out 5
          have k5_6 : u5.cell? ⟨w.heap.size, 6, none⟩ = some (.bool z) := Go.Joins.cell_of_block O5.out 6
          have k5_7 : u5.cell? ⟨w.heap.size, 7, none⟩ = some (.bool true) := Go.Joins.cell_of_block O5.out 7
          have k5_8 : u5.cell? ⟨w.heap.size, 8, none⟩ = some (.bool d) := Go.Joins.cell_of_block O5.out 8
          clear h1 h2 M4 zz4 k4_0 k4_1 k4_2 k4_3 k4_4 k4_5 k4_6 k4_7 k4_8
          go_wp2_with fail
          refine (F2.out _ M5.out.1).mono ?_
          rintro e u6 ⟨rfl, hb⟩
          have M6 : Hid (Own w u6 (w.heap.size + 1) (oneT (2 * (p % 8).toNat + y) (⟨true, t, p, f, x, u, z, true, d⟩ : Ln))) := M5.out.grow hb
          have O6 : Hid (u6.heap[w.heap.size]? = some (.cells #[.bool true, .int .i64 t, .int .i64 p, .int .i64 f, .bool x, .bool u, .bool z, .bool true, .bool d] 26 (0, 0))) := (hb.block _ (by exact zz5)).trans (O5.out)
          have zz6 : w.heap.size < u6.heap.size := Nat.lt_of_lt_of_le (by exact zz5) hb.size
          have k6_0 : u6.cell? ⟨w.heap.size, 0, none⟩ = some (.bool true) := Go.Joins.cell_of_block O6.out 0
          have k6_1 : u6.cell? ⟨w.heap.size, 1, none⟩ = some (.int .i64 t) := Go.Joins.cell_of_block O6.out 1
          have k6_2 : u6.cell? ⟨w.heap.size, 2, none⟩ = some (.int .i64 p) := Go.Joins.cell_of_block O6.out 2
          have k6_3 : u6.cell? ⟨w.heap.size, 3, none⟩ = some (.int .i64 f) := Go.Joins.cell_of_block O6.out 3
          have k6_4 : u6.cell? ⟨w.heap.size, 4, none⟩ = some (.bool x) := Go.Joins.cell_of_block O6.out 4
          have k6_5 : u6.cell? ⟨w.heap.size, 5, none⟩ = some (.bool u) := Go.Joins.cell_of_block O6.out 5
          have k6_6 : u6.cell? ⟨w.heap.size, 6, none⟩ = some (.bool z) := Go.Joins.cell_of_block O6.out 6
          have k6_7 : u6.cell? ⟨w.heap.size, 7, none⟩ = some (.bool true) := Go.Joins.cell_of_block O6.out 7
          have k6_8 : u6.cell? ⟨w.heap.size, 8, none⟩ = some (.bool d) := Go.Joins.cell_of_block O6.out 8
          clear hb M5 zz5 k5_0 k5_1 k5_2 k5_3 k5_4 k5_5 k5_6 k5_7 k5_8
          go_wp2_with fail
          refine (A2.out _ (M6.out.grow (Go.Joins.below_alloc1 _ _)).1).mono ?_
          rintro e u7 ⟨rfl, h1, h2⟩
          have M7 : Hid (Own w u7 (w.heap.size + 1) (oneT (2 * (p % 8).toNat + y) Ln.zero)) := (M6.out.grow (Go.Joins.below_alloc1 _ _)).next h1 h2
          have O7 : Hid (u7.heap[w.heap.size]? = some (.cells #[.bool true, .int .i64 t, .int .i64 p, .int .i64 f, .bool x, .bool u, .bool z, .bool true, .bool d] 26 (0, 0))) := (h2.block _ (by simp; omega) (fun e => by have := Option.some.inj e; omega)).trans (((Go.Joins.below_alloc1 _ _).block _ zz6).trans O6.out)
          have zz7 : w.heap.size < u7.heap.size := Nat.lt_of_lt_of_le (by simp; omega) h2.size
          have k7_0 : u7.cell? ⟨w.heap.size, 0, none⟩ = some (.bool true) := Go.Joins.cell_of_block O7.out 0
          have k7_1 : u7.cell? ⟨w.heap.size, 1, none⟩ = some (.int .i64 t) := Go.Joins.cell_of_block O7.out 1
          have k7_2 : u7.cell? ⟨w.heap.size, 2, none⟩ = some (.int .i64 p) := Go.Joins.cell_of_block O7.out 2
          have k7_3 : u7.cell? ⟨w.heap.size, 3, none⟩ = some (.int .i64 f) := Go.Joins.cell_of_block O7.out 3
          have k7_4 : u7.cell? ⟨w.heap.size, 4, none⟩ = some (.bool x) := Go.Joins.cell_of_block O7.out 4
          have k7_5 : u7.cell? ⟨w.heap.size, 5, none⟩ = some (.bool u) := Go.Joins.cell_of_block O7.out 5
          have k7_6 : u7.cell? ⟨w.heap.size, 6, none⟩ = some (.bool z) := Go.Joins.cell_of_block O7.out 6
          have k7_7 : u7.cell? ⟨w.heap.size, 7, none⟩ = some (.bool true) := Go.Joins.cell_of_block O7.out 7
          have k7_8 : u7.cell? ⟨w.heap.size, 8, none⟩ = some (.bool d) := Go.Joins.cell_of_block O7.out 8
          clear h1 h2 M6 zz6 k6_0 k6_1 k6_2 k6_3 k6_4 k6_5 k6_6 k6_7 k6_8
          go_wp2_with fail
          refine (F4.out _ M7.out.1).mono ?_
          rintro e u8 ⟨rfl, hb⟩
          have M8 : Hid (Own w u8 (w.heap.size + 1) (oneT (2 * (p % 8).toNat + y) Ln.zero)) := M7.out.grow hb
          have O8 : Hid (u8.heap[w.heap.size]? = some (.cells #[.bool true, .int .i64 t, .int .i64 p, .int .i64 f, .bool x, .bool u, .bool z, .bool true, .bool d] 26 (0, 0))) := (hb.block _ (by exact zz7)).trans (O7.out)
          have zz8 : w.heap.size < u8.heap.size := Nat.lt_of_lt_of_le (by exact zz7) hb.size
          have k8_0 : u8.cell? ⟨w.heap.size, 0, none⟩ = some (.bool true) := Go.Joins.cell_of_block O8.out 0
          have k8_1 : u8.cell? ⟨w.heap.size, 1, none⟩ = some (.int .i64 t) := Go.Joins.cell_of_block O8.out 1
          have k8_2 : u8.cell? ⟨w.heap.size, 2, none⟩ = some (.int .i64 p) := Go.Joins.cell_of_block O8.out 2
          have k8_3 : u8.cell? ⟨w.heap.size, 3, none⟩ = some (.int .i64 f) := Go.Joins.cell_of_block O8.out 3
          have k8_4 : u8.cell? ⟨w.heap.size, 4, none⟩ = some (.bool x) := Go.Joins.cell_of_block O8.out 4
          have k8_5 : u8.cell? ⟨w.heap.size, 5, none⟩ = some (.bool u) := Go.Joins.cell_of_block O8.out 5
          have k8_6 : u8.cell? ⟨w.heap.size, 6, none⟩ = some (.bool z) := Go.Joins.cell_of_block O8.out 6
          have k8_7 : u8.cell? ⟨w.heap.size, 7, none⟩ = some (.bool true) := Go.Joins.cell_of_block O8.out 7
          have k8_8 : u8.cell? ⟨w.heap.size, 8, none⟩ = some (.bool d) := Go.Joins.cell_of_block O8.out 8
          clear hb M7 zz7 k7_0 k7_1 k7_2 k7_3 k7_4 k7_5 k7_6 k7_7 k7_8
          go_wp2_with fail
          refine (AW.out _).mono ?_
          rintro e u9 ⟨rfl, hb⟩
          have B9 : Hid (Below w.heap.size w u9) := ((M8.out.grow (Go.Joins.below_alloc1 _ _)).grow hb).2.1
          have O9 : Hid (u9.heap[w.heap.size]? = some (.cells #[.bool true, .int .i64 t, .int .i64 p, .int .i64 f, .bool x, .bool u, .bool z, .bool true, .bool d] 26 (0, 0))) := (hb.block _ (by simp; omega)).trans (((Go.Joins.below_alloc1 _ _).block _ zz8).trans O8.out)
          have k9_0 : u9.cell? ⟨w.heap.size, 0, none⟩ = some (.bool true) := Go.Joins.cell_of_block O9.out 0
          have k9_1 : u9.cell? ⟨w.heap.size, 1, none⟩ = some (.int .i64 t) := Go.Joins.cell_of_block O9.out 1
          have k9_2 : u9.cell? ⟨w.heap.size, 2, none⟩ = some (.int .i64 p) := Go.Joins.cell_of_block O9.out 2
          have k9_3 : u9.cell? ⟨w.heap.size, 3, none⟩ = some (.int .i64 f) := Go.Joins.cell_of_block O9.out 3
          have k9_4 : u9.cell? ⟨w.heap.size, 4, none⟩ = some (.bool x) := Go.Joins.cell_of_block O9.out 4
          have k9_5 : u9.cell? ⟨w.heap.size, 5, none⟩ = some (.bool u) := Go.Joins.cell_of_block O9.out 5
          have k9_6 : u9.cell? ⟨w.heap.size, 6, none⟩ = some (.bool z) := Go.Joins.cell_of_block O9.out 6
          have k9_7 : u9.cell? ⟨w.heap.size, 7, none⟩ = some (.bool true) := Go.Joins.cell_of_block O9.out 7
          have k9_8 : u9.cell? ⟨w.heap.size, 8, none⟩ = some (.bool d) := Go.Joins.cell_of_block O9.out 8
          clear hb M8 zz8 k8_0 k8_1 k8_2 k8_3 k8_4 k8_5 k8_6 k8_7 k8_8
          go_wp2_with fail
          go_ret
          exact ⟨rfl, B9.out⟩
        · have ne' : (t == a2) = false := by simp [ne]
          have ne2 : (a2 == t) = false := by simp [Ne.symm ne]
          have FI : Hid (∀ W : World, IsTlb W (w.heap.size + 1) T0 → Calls Try.prog 18 #[.pointer (some ⟨w.heap.size + 1, 0, none⟩), .int .i64 y, .agg #[.bool true, .int .i64 t, .int .i64 p, .int .i64 f, .bool x, .bool u, .bool z, .bool true, .bool d]] W fun e w' => e = .returned (.int .i64 0) ∧ IsTlb w' (w.heap.size + 1) (oneT (2 * (p % 8).toNat + y) (⟨true, t, p, f, x, u, z, true, d⟩ : Ln)) ∧ W.grownBy w' (some (w.heap.size + 1))) := fun W h => by
            have hs : (⟨true, t, p, f, x, u, z, true, d⟩ : Ln).p % 8 = (((p % 8).toNat : Nat) : Int) := by show p % 8 = _; omega
            refine (fill_ok (w.heap.size + 1) T0 (⟨true, t, p, f, x, u, z, true, d⟩ : Ln) y (p % 8).toNat hy hok hp hs W h).mono fun e w' ⟨h1, h2, h3⟩ => ⟨h1, h2.congr (fun i hi => ?_), h3⟩
            have := one_fill y (⟨true, t, p, f, x, u, z, true, d⟩ : Ln) i hi
            rw [Int.toNat_natCast] at this
            exact this
          have F1 : Hid (∀ W : World, IsTlb W (w.heap.size + 1) (oneT (2 * (p % 8).toNat + y) (⟨true, t, p, f, x, u, z, true, d⟩ : Ln)) → Calls Try.prog 13 #[.pointer (some ⟨w.heap.size + 1, 0, none⟩), .int .i64 a2, .int .i64 p] W fun e w' => e = .returned (.tuple #[.agg #[.bool true, .int .i64 t, .int .i64 p, .int .i64 f, .bool x, .bool u, .bool z, .bool true, .bool d], .bool true]) ∧ Below W.heap.size W w') := fun W h => by
            have := find_any (w.heap.size + 1) _ a2 p W h
            rw [one_find y hy _ _ _ hp, show (⟨true, t, p, f, x, u, z, true, d⟩ : Ln).fits a2 p = true by simp [Ln.fits]] at this
            exact this
          have TG : Hid (∀ W : World, IsTlb W (w.heap.size + 1) (oneT (2 * (p % 8).toNat + y) (⟨true, t, p, f, x, u, z, true, d⟩ : Ln)) → Calls Try.prog 16 #[.pointer (some ⟨w.heap.size + 1, 0, none⟩), .int .i64 t] W fun e w' => e = .returned (.tuple #[]) ∧ IsTlb w' (w.heap.size + 1) (oneT (2 * (p % 8).toNat + y) (⟨true, t, p, f, x, u, z, true, d⟩ : Ln)) ∧ W.grownBy w' (some (w.heap.size + 1))) := fun W h =>
            (tag_any (w.heap.size + 1) _ t W h).mono fun e w' ⟨h1, h2, h3⟩ => ⟨h1, h2.congr (fun i hi => by rw [one_drop _ _ _ i hi]; simp), h3⟩
          have F2 : Hid (∀ W : World, IsTlb W (w.heap.size + 1) (oneT (2 * (p % 8).toNat + y) (⟨true, t, p, f, x, u, z, true, d⟩ : Ln)) → Calls Try.prog 13 #[.pointer (some ⟨w.heap.size + 1, 0, none⟩), .int .i64 t, .int .i64 p] W fun e w' => e = .returned (.tuple #[.agg #[.bool true, .int .i64 t, .int .i64 p, .int .i64 f, .bool x, .bool u, .bool z, .bool true, .bool d], .bool true]) ∧ Below W.heap.size W w') := fun W h => by
            have := find_any (w.heap.size + 1) _ t p W h
            rw [one_find y hy _ _ _ hp, show (⟨true, t, p, f, x, u, z, true, d⟩ : Ln).fits t p = true by simp [Ln.fits]] at this
            exact this
          have A1 : Hid (∀ W : World, IsTlb W (w.heap.size + 1) (oneT (2 * (p % 8).toNat + y) (⟨true, t, p, f, x, u, z, true, d⟩ : Ln)) → Calls Try.prog 17 #[.pointer (some ⟨w.heap.size + 1, 0, none⟩), .bool true] W fun e w' => e = .returned (.tuple #[]) ∧ IsTlb w' (w.heap.size + 1) (oneT (2 * (p % 8).toNat + y) (⟨true, t, p, f, x, u, z, true, d⟩ : Ln)) ∧ W.grownBy w' (some (w.heap.size + 1))) := fun W h =>
            (all_any (w.heap.size + 1) _ true W h).mono fun e w' ⟨h1, h2, h3⟩ => ⟨h1, h2.congr (fun i hi => by rw [one_drop _ _ _ i hi]; simp), h3⟩
          have A2 : Hid (∀ W : World, IsTlb W (w.heap.size + 1) (oneT (2 * (p % 8).toNat + y) (⟨true, t, p, f, x, u, z, true, d⟩ : Ln)) → Calls Try.prog 17 #[.pointer (some ⟨w.heap.size + 1, 0, none⟩), .bool false] W fun e w' => e = .returned (.tuple #[]) ∧ IsTlb w' (w.heap.size + 1) (oneT (2 * (p % 8).toNat + y) Ln.zero) ∧ W.grownBy w' (some (w.heap.size + 1))) := fun W h =>
            (all_any (w.heap.size + 1) _ false W h).mono fun e w' ⟨h1, h2, h3⟩ => ⟨h1, h2.congr (fun i hi => by rw [one_drop _ _ _ i hi]; simp), h3⟩
          have F4 : Hid (∀ W : World, IsTlb W (w.heap.size + 1) (oneT (2 * (p % 8).toNat + y) Ln.zero) → Calls Try.prog 13 #[.pointer (some ⟨w.heap.size + 1, 0, none⟩), .int .i64 t, .int .i64 p] W fun e w' => e = .returned (.tuple #[.agg #[.bool false, .int .i64 0, .int .i64 0, .int .i64 0, .bool false, .bool false, .bool false, .bool false, .bool false], .bool false]) ∧ Below W.heap.size W w') := fun W h => by
            have := find_any (w.heap.size + 1) _ t p W h
            rw [one_find y hy _ _ _ hp, show Ln.zero.fits _ _ = false from rfl] at this
            exact this
          clear hok
          go_enter Try.func6, Try.ntmps6
          go_wp2_with fail
          refine (FI.out _ M.out.1).mono ?_
          rintro e u1 ⟨rfl, h1, h2⟩
          have M1 : Hid (Own w u1 (w.heap.size + 1) (oneT (2 * (p % 8).toNat + y) (⟨true, t, p, f, x, u, z, true, d⟩ : Ln))) := M.out.next h1 h2
          have O1 : Hid (u1.heap[w.heap.size]? = some (.cells #[.bool true, .int .i64 t, .int .i64 p, .int .i64 f, .bool x, .bool u, .bool z, .bool true, .bool d] 26 (0, 0))) := (h2.block _ (by simp; omega) (fun e => by have := Option.some.inj e; omega)).trans (own2a w _ _)
          have zz1 : w.heap.size < u1.heap.size := Nat.lt_of_lt_of_le (by simp; omega) h2.size
          have k1_0 : u1.cell? ⟨w.heap.size, 0, none⟩ = some (.bool true) := Go.Joins.cell_of_block O1.out 0
          have k1_1 : u1.cell? ⟨w.heap.size, 1, none⟩ = some (.int .i64 t) := Go.Joins.cell_of_block O1.out 1
          have k1_2 : u1.cell? ⟨w.heap.size, 2, none⟩ = some (.int .i64 p) := Go.Joins.cell_of_block O1.out 2
          have k1_3 : u1.cell? ⟨w.heap.size, 3, none⟩ = some (.int .i64 f) := Go.Joins.cell_of_block O1.out 3
          have k1_4 : u1.cell? ⟨w.heap.size, 4, none⟩ = some (.bool x) := Go.Joins.cell_of_block O1.out 4
          have k1_5 : u1.cell? ⟨w.heap.size, 5, none⟩ = some (.bool u) := Go.Joins.cell_of_block O1.out 5
          have k1_6 : u1.cell? ⟨w.heap.size, 6, none⟩ = some (.bool z) := Go.Joins.cell_of_block O1.out 6
          have k1_7 : u1.cell? ⟨w.heap.size, 7, none⟩ = some (.bool true) := Go.Joins.cell_of_block O1.out 7
          have k1_8 : u1.cell? ⟨w.heap.size, 8, none⟩ = some (.bool d) := Go.Joins.cell_of_block O1.out 8
          clear h1 h2 M
          go_wp2_with fail
          refine (F1.out _ M1.out.1).mono ?_
          rintro e u2 ⟨rfl, hb⟩
          have M2 : Hid (Own w u2 (w.heap.size + 1) (oneT (2 * (p % 8).toNat + y) (⟨true, t, p, f, x, u, z, true, d⟩ : Ln))) := M1.out.grow hb
          have O2 : Hid (u2.heap[w.heap.size]? = some (.cells #[.bool true, .int .i64 t, .int .i64 p, .int .i64 f, .bool x, .bool u, .bool z, .bool true, .bool d] 26 (0, 0))) := (hb.block _ (by exact zz1)).trans (O1.out)
          have zz2 : w.heap.size < u2.heap.size := Nat.lt_of_lt_of_le (by exact zz1) hb.size
          have k2_0 : u2.cell? ⟨w.heap.size, 0, none⟩ = some (.bool true) := Go.Joins.cell_of_block O2.out 0
          have k2_1 : u2.cell? ⟨w.heap.size, 1, none⟩ = some (.int .i64 t) := Go.Joins.cell_of_block O2.out 1
          have k2_2 : u2.cell? ⟨w.heap.size, 2, none⟩ = some (.int .i64 p) := Go.Joins.cell_of_block O2.out 2
          have k2_3 : u2.cell? ⟨w.heap.size, 3, none⟩ = some (.int .i64 f) := Go.Joins.cell_of_block O2.out 3
          have k2_4 : u2.cell? ⟨w.heap.size, 4, none⟩ = some (.bool x) := Go.Joins.cell_of_block O2.out 4
          have k2_5 : u2.cell? ⟨w.heap.size, 5, none⟩ = some (.bool u) := Go.Joins.cell_of_block O2.out 5
          have k2_6 : u2.cell? ⟨w.heap.size, 6, none⟩ = some (.bool z) := Go.Joins.cell_of_block O2.out 6
          have k2_7 : u2.cell? ⟨w.heap.size, 7, none⟩ = some (.bool true) := Go.Joins.cell_of_block O2.out 7
          have k2_8 : u2.cell? ⟨w.heap.size, 8, none⟩ = some (.bool d) := Go.Joins.cell_of_block O2.out 8
          clear hb M1 zz1 k1_0 k1_1 k1_2 k1_3 k1_4 k1_5 k1_6 k1_7 k1_8
          go_wp2_with fail
          refine (TG.out _ (M2.out.grow (Go.Joins.below_alloc1 _ _)).1).mono ?_
          rintro e u3 ⟨rfl, h1, h2⟩
          have M3 : Hid (Own w u3 (w.heap.size + 1) (oneT (2 * (p % 8).toNat + y) (⟨true, t, p, f, x, u, z, true, d⟩ : Ln))) := (M2.out.grow (Go.Joins.below_alloc1 _ _)).next h1 h2
          have O3 : Hid (u3.heap[w.heap.size]? = some (.cells #[.bool true, .int .i64 t, .int .i64 p, .int .i64 f, .bool x, .bool u, .bool z, .bool true, .bool d] 26 (0, 0))) := (h2.block _ (by simp; omega) (fun e => by have := Option.some.inj e; omega)).trans (((Go.Joins.below_alloc1 _ _).block _ zz2).trans O2.out)
          have zz3 : w.heap.size < u3.heap.size := Nat.lt_of_lt_of_le (by simp; omega) h2.size
          have k3_0 : u3.cell? ⟨w.heap.size, 0, none⟩ = some (.bool true) := Go.Joins.cell_of_block O3.out 0
          have k3_1 : u3.cell? ⟨w.heap.size, 1, none⟩ = some (.int .i64 t) := Go.Joins.cell_of_block O3.out 1
          have k3_2 : u3.cell? ⟨w.heap.size, 2, none⟩ = some (.int .i64 p) := Go.Joins.cell_of_block O3.out 2
          have k3_3 : u3.cell? ⟨w.heap.size, 3, none⟩ = some (.int .i64 f) := Go.Joins.cell_of_block O3.out 3
          have k3_4 : u3.cell? ⟨w.heap.size, 4, none⟩ = some (.bool x) := Go.Joins.cell_of_block O3.out 4
          have k3_5 : u3.cell? ⟨w.heap.size, 5, none⟩ = some (.bool u) := Go.Joins.cell_of_block O3.out 5
          have k3_6 : u3.cell? ⟨w.heap.size, 6, none⟩ = some (.bool z) := Go.Joins.cell_of_block O3.out 6
          have k3_7 : u3.cell? ⟨w.heap.size, 7, none⟩ = some (.bool true) := Go.Joins.cell_of_block O3.out 7
          have k3_8 : u3.cell? ⟨w.heap.size, 8, none⟩ = some (.bool d) := Go.Joins.cell_of_block O3.out 8
          clear h1 h2 M2 zz2 k2_0 k2_1 k2_2 k2_3 k2_4 k2_5 k2_6 k2_7 k2_8
          go_wp2_with fail
          refine (F2.out _ M3.out.1).mono ?_
          rintro e u4 ⟨rfl, hb⟩
          have M4 : Hid (Own w u4 (w.heap.size + 1) (oneT (2 * (p % 8).toNat + y) (⟨true, t, p, f, x, u, z, true, d⟩ : Ln))) := M3.out.grow hb
          have O4 : Hid (u4.heap[w.heap.size]? = some (.cells #[.bool true, .int .i64 t, .int .i64 p, .int .i64 f, .bool x, .bool u, .bool z, .bool true, .bool d] 26 (0, 0))) := (hb.block _ (by exact zz3)).trans (O3.out)
          have zz4 : w.heap.size < u4.heap.size := Nat.lt_of_lt_of_le (by exact zz3) hb.size
          have k4_0 : u4.cell? ⟨w.heap.size, 0, none⟩ = some (.bool true) := Go.Joins.cell_of_block O4.out 0
          have k4_1 : u4.cell? ⟨w.heap.size, 1, none⟩ = some (.int .i64 t) := Go.Joins.cell_of_block O4.out 1
          have k4_2 : u4.cell? ⟨w.heap.size, 2, none⟩ = some (.int .i64 p) := Go.Joins.cell_of_block O4.out 2
          have k4_3 : u4.cell? ⟨w.heap.size, 3, none⟩ = some (.int .i64 f) := Go.Joins.cell_of_block O4.out 3
          have k4_4 : u4.cell? ⟨w.heap.size, 4, none⟩ = some (.bool x) := Go.Joins.cell_of_block O4.out 4
          have k4_5 : u4.cell? ⟨w.heap.size, 5, none⟩ = some (.bool u) := Go.Joins.cell_of_block O4.out 5
          have k4_6 : u4.cell? ⟨w.heap.size, 6, none⟩ = some (.bool z) := Go.Joins.cell_of_block O4.out 6
          have k4_7 : u4.cell? ⟨w.heap.size, 7, none⟩ = some (.bool true) := Go.Joins.cell_of_block O4.out 7
          have k4_8 : u4.cell? ⟨w.heap.size, 8, none⟩ = some (.bool d) := Go.Joins.cell_of_block O4.out 8
          clear hb M3 zz3 k3_0 k3_1 k3_2 k3_3 k3_4 k3_5 k3_6 k3_7 k3_8
          go_wp2_with fail
          refine (A1.out _ (M4.out.grow (Go.Joins.below_alloc1 _ _)).1).mono ?_
          rintro e u5 ⟨rfl, h1, h2⟩
          have M5 : Hid (Own w u5 (w.heap.size + 1) (oneT (2 * (p % 8).toNat + y) (⟨true, t, p, f, x, u, z, true, d⟩ : Ln))) := (M4.out.grow (Go.Joins.below_alloc1 _ _)).next h1 h2
          have O5 : Hid (u5.heap[w.heap.size]? = some (.cells #[.bool true, .int .i64 t, .int .i64 p, .int .i64 f, .bool x, .bool u, .bool z, .bool true, .bool d] 26 (0, 0))) := (h2.block _ (by simp; omega) (fun e => by have := Option.some.inj e; omega)).trans (((Go.Joins.below_alloc1 _ _).block _ zz4).trans O4.out)
          have zz5 : w.heap.size < u5.heap.size := Nat.lt_of_lt_of_le (by simp; omega) h2.size
          have k5_0 : u5.cell? ⟨w.heap.size, 0, none⟩ = some (.bool true) := Go.Joins.cell_of_block O5.out 0
          have k5_1 : u5.cell? ⟨w.heap.size, 1, none⟩ = some (.int .i64 t) := Go.Joins.cell_of_block O5.out 1
          have k5_2 : u5.cell? ⟨w.heap.size, 2, none⟩ = some (.int .i64 p) := Go.Joins.cell_of_block O5.out 2
          have k5_3 : u5.cell? ⟨w.heap.size, 3, none⟩ = some (.int .i64 f) := Go.Joins.cell_of_block O5.out 3
          have k5_4 : u5.cell? ⟨w.heap.size, 4, none⟩ = some (.bool x) := Go.Joins.cell_of_block O5.out 4
          have k5_5 : u5.cell? ⟨w.heap.size, 5, none⟩ = some (.bool u) := Go.Joins.cell_of_block O5.out 5
          have k5_6 : u5.cell? ⟨w.heap.size, 6, none⟩ = some (.bool z) := Go.Joins.cell_of_block O5.out 6
          have k5_7 : u5.cell? ⟨w.heap.size, 7, none⟩ = some (.bool true) := Go.Joins.cell_of_block O5.out 7
          have k5_8 : u5.cell? ⟨w.heap.size, 8, none⟩ = some (.bool d) := Go.Joins.cell_of_block O5.out 8
          clear h1 h2 M4 zz4 k4_0 k4_1 k4_2 k4_3 k4_4 k4_5 k4_6 k4_7 k4_8
          go_wp2_with fail
          refine (F2.out _ M5.out.1).mono ?_
          rintro e u6 ⟨rfl, hb⟩
          have M6 : Hid (Own w u6 (w.heap.size + 1) (oneT (2 * (p % 8).toNat + y) (⟨true, t, p, f, x, u, z, true, d⟩ : Ln))) := M5.out.grow hb
          have O6 : Hid (u6.heap[w.heap.size]? = some (.cells #[.bool true, .int .i64 t, .int .i64 p, .int .i64 f, .bool x, .bool u, .bool z, .bool true, .bool d] 26 (0, 0))) := (hb.block _ (by exact zz5)).trans (O5.out)
          have zz6 : w.heap.size < u6.heap.size := Nat.lt_of_lt_of_le (by exact zz5) hb.size
          have k6_0 : u6.cell? ⟨w.heap.size, 0, none⟩ = some (.bool true) := Go.Joins.cell_of_block O6.out 0
          have k6_1 : u6.cell? ⟨w.heap.size, 1, none⟩ = some (.int .i64 t) := Go.Joins.cell_of_block O6.out 1
          have k6_2 : u6.cell? ⟨w.heap.size, 2, none⟩ = some (.int .i64 p) := Go.Joins.cell_of_block O6.out 2
          have k6_3 : u6.cell? ⟨w.heap.size, 3, none⟩ = some (.int .i64 f) := Go.Joins.cell_of_block O6.out 3
          have k6_4 : u6.cell? ⟨w.heap.size, 4, none⟩ = some (.bool x) := Go.Joins.cell_of_block O6.out 4
          have k6_5 : u6.cell? ⟨w.heap.size, 5, none⟩ = some (.bool u) := Go.Joins.cell_of_block O6.out 5
          have k6_6 : u6.cell? ⟨w.heap.size, 6, none⟩ = some (.bool z) := Go.Joins.cell_of_block O6.out 6
          have k6_7 : u6.cell? ⟨w.heap.size, 7, none⟩ = some (.bool true) := Go.Joins.cell_of_block O6.out 7
          have k6_8 : u6.cell? ⟨w.heap.size, 8, none⟩ = some (.bool d) := Go.Joins.cell_of_block O6.out 8
          clear hb M5 zz5 k5_0 k5_1 k5_2 k5_3 k5_4 k5_5 k5_6 k5_7 k5_8
          go_wp2_with fail
          refine (A2.out _ (M6.out.grow (Go.Joins.below_alloc1 _ _)).1).mono ?_
          rintro e u7 ⟨rfl, h1, h2⟩
          have M7 : Hid (Own w u7 (w.heap.size + 1) (oneT (2 * (p % 8).toNat + y) Ln.zero)) := (M6.out.grow (Go.Joins.below_alloc1 _ _)).next h1 h2
          have O7 : Hid (u7.heap[w.heap.size]? = some (.cells #[.bool true, .int .i64 t, .int .i64 p, .int .i64 f, .bool x, .bool u, .bool z, .bool true, .bool d] 26 (0, 0))) := (h2.block _ (by simp; omega) (fun e => by have := Option.some.inj e; omega)).trans (((Go.Joins.below_alloc1 _ _).block _ zz6).trans O6.out)
          have zz7 : w.heap.size < u7.heap.size := Nat.lt_of_lt_of_le (by simp; omega) h2.size
          have k7_0 : u7.cell? ⟨w.heap.size, 0, none⟩ = some (.bool true) := Go.Joins.cell_of_block O7.out 0
          have k7_1 : u7.cell? ⟨w.heap.size, 1, none⟩ = some (.int .i64 t) := Go.Joins.cell_of_block O7.out 1
          have k7_2 : u7.cell? ⟨w.heap.size, 2, none⟩ = some (.int .i64 p) := Go.Joins.cell_of_block O7.out 2
          have k7_3 : u7.cell? ⟨w.heap.size, 3, none⟩ = some (.int .i64 f) := Go.Joins.cell_of_block O7.out 3
          have k7_4 : u7.cell? ⟨w.heap.size, 4, none⟩ = some (.bool x) := Go.Joins.cell_of_block O7.out 4
          have k7_5 : u7.cell? ⟨w.heap.size, 5, none⟩ = some (.bool u) := Go.Joins.cell_of_block O7.out 5
          have k7_6 : u7.cell? ⟨w.heap.size, 6, none⟩ = some (.bool z) := Go.Joins.cell_of_block O7.out 6
          have k7_7 : u7.cell? ⟨w.heap.size, 7, none⟩ = some (.bool true) := Go.Joins.cell_of_block O7.out 7
          have k7_8 : u7.cell? ⟨w.heap.size, 8, none⟩ = some (.bool d) := Go.Joins.cell_of_block O7.out 8
          clear h1 h2 M6 zz6 k6_0 k6_1 k6_2 k6_3 k6_4 k6_5 k6_6 k6_7 k6_8
          go_wp2_with fail
          refine (F4.out _ M7.out.1).mono ?_
          rintro e u8 ⟨rfl, hb⟩
          have M8 : Hid (Own w u8 (w.heap.size + 1) (oneT (2 * (p % 8).toNat + y) Ln.zero)) := M7.out.grow hb
          have O8 : Hid (u8.heap[w.heap.size]? = some (.cells #[.bool true, .int .i64 t, .int .i64 p, .int .i64 f, .bool x, .bool u, .bool z, .bool true, .bool d] 26 (0, 0))) := (hb.block _ (by exact zz7)).trans (O7.out)
          have zz8 : w.heap.size < u8.heap.size := Nat.lt_of_lt_of_le (by exact zz7) hb.size
          have k8_0 : u8.cell? ⟨w.heap.size, 0, none⟩ = some (.bool true) := Go.Joins.cell_of_block O8.out 0
          have k8_1 : u8.cell? ⟨w.heap.size, 1, none⟩ = some (.int .i64 t) := Go.Joins.cell_of_block O8.out 1
          have k8_2 : u8.cell? ⟨w.heap.size, 2, none⟩ = some (.int .i64 p) := Go.Joins.cell_of_block O8.out 2
          have k8_3 : u8.cell? ⟨w.heap.size, 3, none⟩ = some (.int .i64 f) := Go.Joins.cell_of_block O8.out 3
          have k8_4 : u8.cell? ⟨w.heap.size, 4, none⟩ = some (.bool x) := Go.Joins.cell_of_block O8.out 4
          have k8_5 : u8.cell? ⟨w.heap.size, 5, none⟩ = some (.bool u) := Go.Joins.cell_of_block O8.out 5
          have k8_6 : u8.cell? ⟨w.heap.size, 6, none⟩ = some (.bool z) := Go.Joins.cell_of_block O8.out 6
          have k8_7 : u8.cell? ⟨w.heap.size, 7, none⟩ = some (.bool true) := Go.Joins.cell_of_block O8.out 7
          have k8_8 : u8.cell? ⟨w.heap.size, 8, none⟩ = some (.bool d) := Go.Joins.cell_of_block O8.out 8
          clear hb M7 zz7 k7_0 k7_1 k7_2 k7_3 k7_4 k7_5 k7_6 k7_7 k7_8
          go_wp2_with fail
          refine (AW.out _).mono ?_
          rintro e u9 ⟨rfl, hb⟩
          have B9 : Hid (Below w.heap.size w u9) := ((M8.out.grow (Go.Joins.below_alloc1 _ _)).grow hb).2.1
          have O9 : Hid (u9.heap[w.heap.size]? = some (.cells #[.bool true, .int .i64 t, .int .i64 p, .int .i64 f, .bool x, .bool u, .bool z, .bool true, .bool d] 26 (0, 0))) := (hb.block _ (by simp; omega)).trans (((Go.Joins.below_alloc1 _ _).block _ zz8).trans O8.out)
          have k9_0 : u9.cell? ⟨w.heap.size, 0, none⟩ = some (.bool true) := Go.Joins.cell_of_block O9.out 0
          have k9_1 : u9.cell? ⟨w.heap.size, 1, none⟩ = some (.int .i64 t) := Go.Joins.cell_of_block O9.out 1
          have k9_2 : u9.cell? ⟨w.heap.size, 2, none⟩ = some (.int .i64 p) := Go.Joins.cell_of_block O9.out 2
          have k9_3 : u9.cell? ⟨w.heap.size, 3, none⟩ = some (.int .i64 f) := Go.Joins.cell_of_block O9.out 3
          have k9_4 : u9.cell? ⟨w.heap.size, 4, none⟩ = some (.bool x) := Go.Joins.cell_of_block O9.out 4
          have k9_5 : u9.cell? ⟨w.heap.size, 5, none⟩ = some (.bool u) := Go.Joins.cell_of_block O9.out 5
          have k9_6 : u9.cell? ⟨w.heap.size, 6, none⟩ = some (.bool z) := Go.Joins.cell_of_block O9.out 6
          have k9_7 : u9.cell? ⟨w.heap.size, 7, none⟩ = some (.bool true) := Go.Joins.cell_of_block O9.out 7
          have k9_8 : u9.cell? ⟨w.heap.size, 8, none⟩ = some (.bool d) := Go.Joins.cell_of_block O9.out 8
          clear hb M8 zz8 k8_0 k8_1 k8_2 k8_3 k8_4 k8_5 k8_6 k8_7 k8_8
          go_wp2_with fail
          go_ret
          exact ⟨rfl, B9.out⟩
    · have FI : Hid (∀ W : World, IsTlb W (w.heap.size + 1) T0 → Calls Try.prog 18 #[.pointer (some ⟨w.heap.size + 1, 0, none⟩), .int .i64 y, .agg #[.bool true, .int .i64 t, .int .i64 p, .int .i64 f, .bool x, .bool u, .bool z, .bool g, .bool d]] W fun e w' => e = .returned (.int .i64 0) ∧ IsTlb w' (w.heap.size + 1) (fillT T0 y ⟨true, t, p, f, x, u, z, g, d⟩) ∧ W.grownBy w' (some (w.heap.size + 1))) := fun W h =>
        fill_ok (w.heap.size + 1) T0 ⟨true, t, p, f, x, u, z, g, d⟩ y (p % 8).toNat hy hok hp (by show p % 8 = _; omega) W h
      clear hok
      by_cases hn : a2 < 0
      · have e1 : decide (a2 < 0) = true := by simp [hn]
        go_enter Try.func6, Try.ntmps6
        go_wp2_with fail
        refine (FI.out _ M.out.1).mono ?_
        rintro e u1 ⟨rfl, h1, h2⟩
        have M1 : Hid (Own w u1 (w.heap.size + 1) (fillT T0 y ⟨true, t, p, f, x, u, z, g, d⟩)) := M.out.next h1 h2
        clear h1 h2 M
        go_wp2_with fail
        refine (AW.out _).mono ?_
        rintro e u9 ⟨rfl, hb⟩
        have B9 : Hid (Below w.heap.size w u9) := (M1.out.grow hb).2.1
        clear hb M1
        go_wp2_with fail
        go_ret
        exact ⟨rfl, B9.out⟩
      · have e1 : decide (a2 < 0) = false := by simp; omega
        have e2 : decide (4095 < a2) = true := by simp; omega
        go_enter Try.func6, Try.ntmps6
        go_wp2_with fail
        refine (FI.out _ M.out.1).mono ?_
        rintro e u1 ⟨rfl, h1, h2⟩
        have M1 : Hid (Own w u1 (w.heap.size + 1) (fillT T0 y ⟨true, t, p, f, x, u, z, g, d⟩)) := M.out.next h1 h2
        clear h1 h2 M
        go_wp2_with fail
        refine (AW.out _).mono ?_
        rintro e u9 ⟨rfl, hb⟩
        have B9 : Hid (Below w.heap.size w u9) := (M1.out.grow hb).2.1
        clear hb M1
        go_wp2_with fail
        go_ret
        exact ⟨rfl, B9.out⟩
  · have FR : Hid (∀ W : World, Calls Try.prog 18 #[.pointer (some ⟨w.heap.size + 1, 0, none⟩), .int .i64 a1, .agg #[.bool l0.v, .int .i64 l0.t, .int .i64 l0.p, .int .i64 l0.f, .bool l0.w, .bool l0.u, .bool l0.x, .bool l0.g, .bool l0.d]] W fun e w' => e = .returned (.int .i64 1) ∧ Below W.heap.size W w') := fun W => by
      by_cases c : a1 < 0 ∨ 2 ≤ a1
      · exact fill_way (w.heap.size + 1) l0 a1 c W
      · have hl : l0.ok = false := by
          cases hq : l0.ok
          · rfl
          · exact absurd ⟨by omega, by omega, hq⟩ hw
        exact fill_form (w.heap.size + 1) l0 a1 (by omega) (by omega) hl W
    clear hw hs hzz hs'
    go_enter Try.func6, Try.ntmps6
    go_wp2_with fail
    refine (FR.out _).mono ?_
    rintro e u1 ⟨rfl, hb⟩
    have B1 : Hid (Below w.heap.size w u1) := below_then (Go.Joins.below_alloc2 _ _ _) hb
    clear hb
    go_wp2_with fail
    refine (AW.out _).mono ?_
    rintro e u9 ⟨rfl, hb⟩
    have B9 : Hid (Below w.heap.size w u9) := below_then B1.out hb
    clear hb
    go_wp2_with fail
    go_ret
    exact ⟨rfl, B9.out⟩

theorem own : ownKnob Try.prog.godebug = none := by kernel_rfl
theorem laidOut : laidOutB Try.prog = true := by kernel_rfl
set_option maxRecDepth 100000 in
theorem lifted (os : Os) (started : os.Started) (H : Type) (enc : TypeId × Value → H) :
    ReturnsInHanded {} Try.checked os 6 .any (Rows.tlbGlobalsSpec.pre6 enc Try.prog Try.f6 Rows.tlbGlobalsRow.domain false) (Rows.tlbGlobalsSpec.post enc Try.prog Try.f6 false true false false) := by
  refine returnsInHanded_of_change (C := Try.checked) own started (by kernel_rfl) Try.func6
    (ChangeSpec.witness6 (enc := enc) (C := Try.checked) false ⟨#[], #[.agg #[.bool false, .int .i64 0, .int .i64 0, .int .i64 0, .bool false, .bool false, .bool false, .bool false, .bool false], .int .i64 0, .int .i64 0], []⟩ 8 (by kernel_rfl) (by kernel_rfl) (by kernel_rfl) (by kernel_rfl)) ?_
  intro W base args ds gs before hval0 hW hcnd _
  have hval : ∀ (j : Nat) t v, Try.f6.params[j]? = some t → args[j]? = some v → Value.okWide Try.prog W .any base t v := hval0
  have hW' := hW
  obtain ⟨p, q, hA0, hV, hbef, hfz, hnd⟩ := hW
  have hA : DataW.TrodAll enc Try.prog W 0 (fun _ => true) true Try.f6.params.toList args.toList ds p := hA0
  have hAk := hA
  have hlt : ∀ x ∈ p, x.block < W.heap.size := fun x hx => hW'.lt x (by rw [hbef]; exact List.mem_append_left _ hx)
  rw [Try.params6] at hA hval
  obtain ⟨v0, vs0, d0, ds0, p0, q0, hargs, rfl, hp0, h0, r0⟩ := trodAll_cons hA
  obtain ⟨v1, vs1, d1, ds1, p1, q1, rfl, rfl, hp1, h1, r1⟩ := trodAll_cons r0
  obtain ⟨v2, vs2, d2, ds2, p2, q2, rfl, rfl, hp2, h2, r2⟩ := trodAll_cons r1
  obtain ⟨rfl, rfl, hpz⟩ := trodAll_nil r2
  obtain rfl : args = #[v0, v1, v2] := by cases args; simp_all
  obtain ⟨rfl, rfl⟩ := trodVars_none hV
  obtain ⟨l0, rfl, w0t, w0p, w0f⟩ := open_line (hval 0 26 v0 rfl rfl) h0
  obtain ⟨a1, rfl, _, _, w1⟩ := open_int Try.underlying3 (hval 1 3 v1 rfl rfl) h1
  obtain ⟨a2, rfl, _, _, w2⟩ := open_int Try.underlying3 (hval 2 3 v2 rfl rfl) h2
  clear hA0 hval0
  refine (walk l0 w0t w0p w0f a1 w1 a2 w2 W).mono fun e W' ⟨he, hg⟩ => ?_
  subst he
  exact ⟨_, rfl, ⟨_, _, _, [], p, [], hW', (trodAll_cons_mk (shut_bool Try.underlying4 _) trodAll_mk0), args_stay laidOut hg (by kernel_rfl) hAk hlt, rfl, hg.frame _, fun h => by cases h⟩⟩

theorem over : Rows.tlbGlobalsRow.holds Try.pinned (OpenSpec.ofChange Rows.tlbGlobalsSpec) :=
  OpenClaim.holds_of_wide 6 Try.f6 rfl rfl rfl rfl rfl rfl rfl ⟨rfl, rfl, rfl, rfl, rfl⟩ rfl rfl rfl rfl rfl (by kernel_rfl) Try.func6 (by kernel_rfl)
    (of_decide_eq_true (by kernel_rfl)) (by unfold Func.isWrapper; first | (rw [if_pos (by decide +kernel)]; kernel_rfl) | (rw [if_neg (by decide +kernel)]; exact ⟨rfl, rfl⟩))
    (fun os started H enc _ => lifted os started H enc)

theorem proved : Rows.TlbGlobalsSaid :=
  over
#print axioms proved
end Go.Proofs.Ytdckjoimgddcbaa.tlbGlobals
