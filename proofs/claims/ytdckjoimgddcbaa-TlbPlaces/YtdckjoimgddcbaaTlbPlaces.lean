/- For any two lines of unlike pages and any ways: lines drive one another out in one place alone; what is kept is found as it was filled; no condition. -/
import Derived.Test.YtdckjoimgddcbaaRows
import Derived.ProofKit
import Derived.OpenShut
import Derived.Carry
import Derived.Test.YtdckjoimgddcbaaT11
namespace Go.Proofs.Ytdckjoimgddcbaa.tlbPlaces
open Go.ChangeShapes Go.WideShapes Go.ChangeAt Go.RowKit Go.Maps
set_option linter.unusedSimpArgs false
set_option linter.unusedVariables false
theorem own3a (w : World) (o p q : Obj) : (((w.alloc o).alloc p).alloc q).heap[w.heap.size]? = some o := ((Go.Joins.below_alloc1 _ q).block _ (by rw [World.size_alloc, World.size_alloc]; omega)).trans (own2a w o p)
theorem own3b (w : World) (o p q : Obj) : (((w.alloc o).alloc p).alloc q).heap[w.heap.size + 1]? = some p := ((Go.Joins.below_alloc1 _ q).block _ (by rw [World.size_alloc, World.size_alloc]; omega)).trans (own2b w o p)
theorem size2 (w : World) (a b : Obj) : ((w.alloc a).alloc b).heap.size = w.heap.size + 1 + 1 := by simp

set_option maxRecDepth 8000 in
set_option maxHeartbeats 4000000 in
theorem walk (l0 : Ln) (w0t : (Lit.int .i64 l0.t).wf = true) (w0p : (Lit.int .i64 l0.p).wf = true) (w0f : (Lit.int .i64 l0.f).wf = true) (l1 : Ln) (w1t : (Lit.int .i64 l1.t).wf = true) (w1p : (Lit.int .i64 l1.p).wf = true) (w1f : (Lit.int .i64 l1.f).wf = true) (a2 : Int) (w2 : (Lit.int .i64 a2).wf = true) (a3 : Int) (w3 : (Lit.int .i64 a3).wf = true) (w : World) :
    Calls Try.prog 7 #[l0.val, l1.val, .int .i64 a2, .int .i64 a3] w fun e w' => e = .returned (.bool true) ∧ Below w.heap.size w w' := by
  obtain ⟨Zs, hz, hs, hzz⟩ := zero30
  have AW : Hid (∀ w : World, Calls Try.prog 9 #[] w fun e w' => e = .returned (.bool true) ∧ Below w.heap.size w w') := fun w => awake_any w
  obtain ⟨v0, t0, p0, f0, x0, k0, z0, g0, d0⟩ := l0
  obtain ⟨v1, t1, p1, f1, x1, k1, z1, g1, d1⟩ := l1
  have M : Hid (Own w (((w.alloc (.cells #[.bool v0, .int .i64 t0, .int .i64 p0, .int .i64 f0, .bool x0, .bool k0, .bool z0, .bool false, .bool d0] 26)).alloc (.cells #[.bool v1, .int .i64 t1, .int .i64 p1, .int .i64 f1, .bool x1, .bool k1, .bool z1, .bool false, .bool d1] 26)).alloc (.cells Zs 30)) (w.heap.size + 1 + 1) T0) := by
    have := IsTlb.made ((w.alloc (.cells #[.bool v0, .int .i64 t0, .int .i64 p0, .int .i64 f0, .bool x0, .bool k0, .bool z0, .bool false, .bool d0] 26)).alloc (.cells #[.bool v1, .int .i64 t1, .int .i64 p1, .int .i64 f1, .bool x1, .bool k1, .bool z1, .bool false, .bool d1] 26)) Zs hs hzz
    rw [size2] at this
    exact ⟨this, Go.Joins.below_alloc3 _ _ _ _, by omega⟩
  by_cases ne : p0 = p1
  · subst ne
    have e0 : (p0 == p0) = true := by simp
    go_enter Try.func7, Try.ntmps7
    go_wp2_with fail
    refine (AW.out _).mono ?_
    rintro e u9 ⟨rfl, hb⟩
    have B9 : Hid (Below w.heap.size w u9) := below_then (Go.Joins.below_alloc3 _ _ _ _) hb
    clear hb
    go_wp2_with fail
    go_ret
    exact ⟨rfl, B9.out⟩
  · have ne1 : (p0 == p1) = false := by simp [ne]
    by_cases hw : 0 ≤ a2 ∧ a2 < 2 ∧ (⟨v0, t0, p0, f0, x0, k0, z0, false, d0⟩ : Ln).ok = true
    · obtain ⟨y0, y2, ok0⟩ := hw
      obtain ⟨y, rfl⟩ := Int.eq_ofNat_of_zero_le y0
      have hy : y < 2 := by omega
      obtain rfl : v0 = true := by cases v0 <;> simp_all [Ln.ok]
      have hp0 : 0 ≤ p0 := by simp [Ln.ok] at ok0; omega
      by_cases hv : 0 ≤ a3 ∧ a3 < 2 ∧ (⟨v1, t1, p1, f1, x1, k1, z1, false, d1⟩ : Ln).ok = true
      · obtain ⟨q0, q2, ok1⟩ := hv
        obtain ⟨q, rfl⟩ := Int.eq_ofNat_of_zero_le q0
        have hq : q < 2 := by omega
        obtain rfl : v1 = true := by cases v1 <;> simp_all [Ln.ok]
        have hp1 : 0 ≤ p1 := by simp [Ln.ok] at ok1; omega
        clear hs hzz y0 y2 q0 q2 w0t w0p w0f w1t w1p w1f w2 w3
        have t0' : p0.tmod 8 = p0 % 8 := Int.tmod_eq_emod_of_nonneg hp0
        have t1' : p1.tmod 8 = p1 % 8 := Int.tmod_eq_emod_of_nonneg hp1
        by_cases st : p0 % 8 = p1 % 8
        · have e8 : (p0 % 8 != p1 % 8) = false := by simp [st]
          by_cases sy : y = q
          · have ey : ((y : Int) != (q : Int)) = false := by simp [sy]
            have hi : (2 * (p0 % 8).toNat + y) = (2 * (p1 % 8).toNat + q) := by rw [st, sy]
            clear st sy
            have FI : Hid (∀ W : World, IsTlb W (w.heap.size + 1 + 1) T0 → Calls Try.prog 18 #[.pointer (some ⟨w.heap.size + 1 + 1, 0, none⟩), .int .i64 y, .agg #[.bool true, .int .i64 t0, .int .i64 p0, .int .i64 f0, .bool x0, .bool k0, .bool z0, .bool false, .bool d0]] W fun e w' => e = .returned (.int .i64 0) ∧ IsTlb w' (w.heap.size + 1 + 1) (oneT (2 * (p0 % 8).toNat + y) (⟨true, t0, p0, f0, x0, k0, z0, false, d0⟩ : Ln)) ∧ W.grownBy w' (some (w.heap.size + 1 + 1))) := fun W h => by
              have hs : (⟨true, t0, p0, f0, x0, k0, z0, false, d0⟩ : Ln).p % 8 = (((p0 % 8).toNat : Nat) : Int) := by show p0 % 8 = _; omega
              refine (fill_ok (w.heap.size + 1 + 1) T0 (⟨true, t0, p0, f0, x0, k0, z0, false, d0⟩ : Ln) y (p0 % 8).toNat hy ok0 hp0 hs W h).mono fun e w' ⟨h1, h2, h3⟩ => ⟨h1, h2.congr (fun i hi => ?_), h3⟩
              have := one_fill y (⟨true, t0, p0, f0, x0, k0, z0, false, d0⟩ : Ln) i hi
              rw [Int.toNat_natCast] at this
              exact this
            have FB : Hid (∀ W : World, IsTlb W (w.heap.size + 1 + 1) (oneT (2 * (p0 % 8).toNat + y) (⟨true, t0, p0, f0, x0, k0, z0, false, d0⟩ : Ln)) → Calls Try.prog 18 #[.pointer (some ⟨w.heap.size + 1 + 1, 0, none⟩), .int .i64 q, .agg #[.bool true, .int .i64 t1, .int .i64 p1, .int .i64 f1, .bool x1, .bool k1, .bool z1, .bool false, .bool d1]] W fun e w' => e = .returned (.int .i64 0) ∧ IsTlb w' (w.heap.size + 1 + 1) (twoT (2 * (p0 % 8).toNat + y) (⟨true, t0, p0, f0, x0, k0, z0, false, d0⟩ : Ln) (2 * (p1 % 8).toNat + q) (⟨true, t1, p1, f1, x1, k1, z1, false, d1⟩ : Ln)) ∧ W.grownBy w' (some (w.heap.size + 1 + 1))) := fun W h => by
              have hs : (⟨true, t1, p1, f1, x1, k1, z1, false, d1⟩ : Ln).p % 8 = (((p1 % 8).toNat : Nat) : Int) := by show p1 % 8 = _; omega
              have hb : (⟨true, t1, p1, f1, x1, k1, z1, false, d1⟩ : Ln).beats (⟨true, t0, p0, f0, x0, k0, z0, false, d0⟩ : Ln) = false := by simp [Ln.beats, Ln.fits, ne1]
              exact (fill_ok (w.heap.size + 1 + 1) _ (⟨true, t1, p1, f1, x1, k1, z1, false, d1⟩ : Ln) q (p1 % 8).toNat hq ok1 hp1 hs W h).mono fun e w' ⟨h1, h2, h3⟩ => ⟨h1, h2.congr (fun i hi => two_fill _ _ (⟨true, t1, p1, f1, x1, k1, z1, false, d1⟩ : Ln) q hb i hi), h3⟩
            have GA : Hid (∀ W : World, IsTlb W (w.heap.size + 1 + 1) (twoT (2 * (p0 % 8).toNat + y) (⟨true, t0, p0, f0, x0, k0, z0, false, d0⟩ : Ln) (2 * (p1 % 8).toNat + q) (⟨true, t1, p1, f1, x1, k1, z1, false, d1⟩ : Ln)) → Calls Try.prog 13 #[.pointer (some ⟨w.heap.size + 1 + 1, 0, none⟩), .int .i64 t0, .int .i64 p0] W fun e w' => e = .returned (.tuple #[.agg #[.bool false, .int .i64 0, .int .i64 0, .int .i64 0, .bool false, .bool false, .bool false, .bool false, .bool false], .bool false]) ∧ Below W.heap.size W w') := fun W h => by
              have := find_any (w.heap.size + 1 + 1) _ t0 p0 W h
              have e := find_at (twoT (2 * (p0 % 8).toNat + y) (⟨true, t0, p0, f0, x0, k0, z0, false, d0⟩ : Ln) (2 * (p1 % 8).toNat + q) (⟨true, t1, p1, f1, x1, k1, z1, false, d1⟩ : Ln)) t0 p0 hp0 _ rfl y hy (⟨true, t1, p1, f1, x1, k1, z1, false, d1⟩ : Ln) (by unfold twoT; rw [if_pos (by omega)]) (two_fits _ _ _ _ _ _ _ (fun _ => Ne.symm ne) (fun _ hc => by omega))
              rw [e, show (⟨true, t1, p1, f1, x1, k1, z1, false, d1⟩ : Ln).fits t0 p0 = false from fits_other _ _ _ (Ne.symm ne)] at this
              exact this
            have GB : Hid (∀ W : World, IsTlb W (w.heap.size + 1 + 1) (twoT (2 * (p0 % 8).toNat + y) (⟨true, t0, p0, f0, x0, k0, z0, false, d0⟩ : Ln) (2 * (p1 % 8).toNat + q) (⟨true, t1, p1, f1, x1, k1, z1, false, d1⟩ : Ln)) → Calls Try.prog 13 #[.pointer (some ⟨w.heap.size + 1 + 1, 0, none⟩), .int .i64 t1, .int .i64 p1] W fun e w' => e = .returned (.tuple #[.agg #[.bool true, .int .i64 t1, .int .i64 p1, .int .i64 f1, .bool x1, .bool k1, .bool z1, .bool false, .bool d1], .bool true]) ∧ Below W.heap.size W w') := fun W h => by
              have := find_any (w.heap.size + 1 + 1) _ t1 p1 W h
              have e := find_at (twoT (2 * (p0 % 8).toNat + y) (⟨true, t0, p0, f0, x0, k0, z0, false, d0⟩ : Ln) (2 * (p1 % 8).toNat + q) (⟨true, t1, p1, f1, x1, k1, z1, false, d1⟩ : Ln)) t1 p1 hp1 _ rfl q hq (⟨true, t1, p1, f1, x1, k1, z1, false, d1⟩ : Ln) (by unfold twoT; rw [if_pos rfl]) (two_fits _ _ _ _ _ _ _ (fun hc => by omega) (fun _ _ => ne))
              rw [e, show (⟨true, t1, p1, f1, x1, k1, z1, false, d1⟩ : Ln).fits t1 p1 = true by simp [Ln.fits]] at this
              exact this
            have LI : Hid (∀ W : World, IsTlb W (w.heap.size + 1 + 1) (twoT (2 * (p0 % 8).toNat + y) (⟨true, t0, p0, f0, x0, k0, z0, false, d0⟩ : Ln) (2 * (p1 % 8).toNat + q) (⟨true, t1, p1, f1, x1, k1, z1, false, d1⟩ : Ln)) → Calls Try.prog 11 #[.pointer (some ⟨w.heap.size + 1 + 1, 0, none⟩)] W fun e w' => (∃ (p : Option Addr) (n c : Nat), e = .returned (.slice p n c) ∧ n ≤ 2) ∧ Below W.heap.size W w') := fun W h => (lines_any (w.heap.size + 1 + 1) _ W h).mono fun e w' ⟨v, he, ho, hb⟩ => by
              obtain ⟨p, c, rfl⟩ := own_len ho
              exact ⟨⟨p, _, c, he, two_len _ _ _ _⟩, hb⟩
            clear ok0 ok1
            go_enter Try.func7, Try.ntmps7
            go_wp2_with fail
            refine (FI.out _ M.out.1).mono ?_
            rintro e u1 ⟨rfl, h1, h2⟩
            have M1 : Hid (Own w u1 (w.heap.size + 1 + 1) (oneT (2 * (p0 % 8).toNat + y) (⟨true, t0, p0, f0, x0, k0, z0, false, d0⟩ : Ln))) := M.out.next h1 h2
            have P1 : Hid (u1.heap[w.heap.size]? = some (.cells #[.bool true, .int .i64 t0, .int .i64 p0, .int .i64 f0, .bool x0, .bool k0, .bool z0, .bool false, .bool d0] 26 (0, 0))) := (h2.block _ (by simp; omega) (fun e => by have := Option.some.inj e; omega)).trans (own3a w _ _ _)
            have Q1 : Hid (u1.heap[w.heap.size + 1]? = some (.cells #[.bool true, .int .i64 t1, .int .i64 p1, .int .i64 f1, .bool x1, .bool k1, .bool z1, .bool false, .bool d1] 26 (0, 0))) := (h2.block _ (by simp) (fun e => by have := Option.some.inj e; omega)).trans (own3b w _ _ _)
            have s1 : w.heap.size + 1 < u1.heap.size := Nat.lt_of_lt_of_le (by simp) h2.size
            have b1_0 : u1.cell? ⟨w.heap.size + 1, 0, none⟩ = some (.bool true) := Go.Joins.cell_of_block Q1.out 0
            have b1_1 : u1.cell? ⟨w.heap.size + 1, 1, none⟩ = some (.int .i64 t1) := Go.Joins.cell_of_block Q1.out 1
            have b1_2 : u1.cell? ⟨w.heap.size + 1, 2, none⟩ = some (.int .i64 p1) := Go.Joins.cell_of_block Q1.out 2
            have b1_3 : u1.cell? ⟨w.heap.size + 1, 3, none⟩ = some (.int .i64 f1) := Go.Joins.cell_of_block Q1.out 3
            have b1_4 : u1.cell? ⟨w.heap.size + 1, 4, none⟩ = some (.bool x1) := Go.Joins.cell_of_block Q1.out 4
            have b1_5 : u1.cell? ⟨w.heap.size + 1, 5, none⟩ = some (.bool k1) := Go.Joins.cell_of_block Q1.out 5
            have b1_6 : u1.cell? ⟨w.heap.size + 1, 6, none⟩ = some (.bool z1) := Go.Joins.cell_of_block Q1.out 6
            have b1_7 : u1.cell? ⟨w.heap.size + 1, 7, none⟩ = some (.bool false) := Go.Joins.cell_of_block Q1.out 7
            have b1_8 : u1.cell? ⟨w.heap.size + 1, 8, none⟩ = some (.bool d1) := Go.Joins.cell_of_block Q1.out 8
            clear h1 h2 M
            go_wp2_with fail
            refine (FB.out _ M1.out.1).mono ?_
            rintro e u2 ⟨rfl, h1, h2⟩
            have M2 : Hid (Own w u2 (w.heap.size + 1 + 1) (twoT (2 * (p0 % 8).toNat + y) (⟨true, t0, p0, f0, x0, k0, z0, false, d0⟩ : Ln) (2 * (p1 % 8).toNat + q) (⟨true, t1, p1, f1, x1, k1, z1, false, d1⟩ : Ln))) := M1.out.next h1 h2
            have P2 : Hid (u2.heap[w.heap.size]? = some (.cells #[.bool true, .int .i64 t0, .int .i64 p0, .int .i64 f0, .bool x0, .bool k0, .bool z0, .bool false, .bool d0] 26 (0, 0))) := (h2.block _ (by omega) (fun e => by have := Option.some.inj e; omega)).trans P1.out
            have Q2 : Hid (u2.heap[w.heap.size + 1]? = some (.cells #[.bool true, .int .i64 t1, .int .i64 p1, .int .i64 f1, .bool x1, .bool k1, .bool z1, .bool false, .bool d1] 26 (0, 0))) := (h2.block _ s1 (fun e => by have := Option.some.inj e; omega)).trans Q1.out
            have s2 : w.heap.size + 1 < u2.heap.size := Nat.lt_of_lt_of_le s1 h2.size
            have a2_0 : u2.cell? ⟨w.heap.size, 0, none⟩ = some (.bool true) := Go.Joins.cell_of_block P2.out 0
            have a2_1 : u2.cell? ⟨w.heap.size, 1, none⟩ = some (.int .i64 t0) := Go.Joins.cell_of_block P2.out 1
            have a2_2 : u2.cell? ⟨w.heap.size, 2, none⟩ = some (.int .i64 p0) := Go.Joins.cell_of_block P2.out 2
            have a2_3 : u2.cell? ⟨w.heap.size, 3, none⟩ = some (.int .i64 f0) := Go.Joins.cell_of_block P2.out 3
            have a2_4 : u2.cell? ⟨w.heap.size, 4, none⟩ = some (.bool x0) := Go.Joins.cell_of_block P2.out 4
            have a2_5 : u2.cell? ⟨w.heap.size, 5, none⟩ = some (.bool k0) := Go.Joins.cell_of_block P2.out 5
            have a2_6 : u2.cell? ⟨w.heap.size, 6, none⟩ = some (.bool z0) := Go.Joins.cell_of_block P2.out 6
            have a2_7 : u2.cell? ⟨w.heap.size, 7, none⟩ = some (.bool false) := Go.Joins.cell_of_block P2.out 7
            have a2_8 : u2.cell? ⟨w.heap.size, 8, none⟩ = some (.bool d0) := Go.Joins.cell_of_block P2.out 8
            clear h1 h2 M1 s1 b1_0 b1_1 b1_2 b1_3 b1_4 b1_5 b1_6 b1_7 b1_8
            go_wp2_with fail
            refine (GA.out _ M2.out.1).mono ?_
            rintro e u3 ⟨rfl, hb⟩
            have M3 : Hid (Own w u3 (w.heap.size + 1 + 1) (twoT (2 * (p0 % 8).toNat + y) (⟨true, t0, p0, f0, x0, k0, z0, false, d0⟩ : Ln) (2 * (p1 % 8).toNat + q) (⟨true, t1, p1, f1, x1, k1, z1, false, d1⟩ : Ln))) := M2.out.grow hb
            have P3 : Hid (u3.heap[w.heap.size]? = some (.cells #[.bool true, .int .i64 t0, .int .i64 p0, .int .i64 f0, .bool x0, .bool k0, .bool z0, .bool false, .bool d0] 26 (0, 0))) := (hb.block _ (by omega)).trans P2.out
            have Q3 : Hid (u3.heap[w.heap.size + 1]? = some (.cells #[.bool true, .int .i64 t1, .int .i64 p1, .int .i64 f1, .bool x1, .bool k1, .bool z1, .bool false, .bool d1] 26 (0, 0))) := (hb.block _ s2).trans Q2.out
            have s3 : w.heap.size + 1 < u3.heap.size := Nat.lt_of_lt_of_le s2 hb.size
            have b3_0 : u3.cell? ⟨w.heap.size + 1, 0, none⟩ = some (.bool true) := Go.Joins.cell_of_block Q3.out 0
            have b3_1 : u3.cell? ⟨w.heap.size + 1, 1, none⟩ = some (.int .i64 t1) := Go.Joins.cell_of_block Q3.out 1
            have b3_2 : u3.cell? ⟨w.heap.size + 1, 2, none⟩ = some (.int .i64 p1) := Go.Joins.cell_of_block Q3.out 2
            have b3_3 : u3.cell? ⟨w.heap.size + 1, 3, none⟩ = some (.int .i64 f1) := Go.Joins.cell_of_block Q3.out 3
            have b3_4 : u3.cell? ⟨w.heap.size + 1, 4, none⟩ = some (.bool x1) := Go.Joins.cell_of_block Q3.out 4
            have b3_5 : u3.cell? ⟨w.heap.size + 1, 5, none⟩ = some (.bool k1) := Go.Joins.cell_of_block Q3.out 5
            have b3_6 : u3.cell? ⟨w.heap.size + 1, 6, none⟩ = some (.bool z1) := Go.Joins.cell_of_block Q3.out 6
            have b3_7 : u3.cell? ⟨w.heap.size + 1, 7, none⟩ = some (.bool false) := Go.Joins.cell_of_block Q3.out 7
            have b3_8 : u3.cell? ⟨w.heap.size + 1, 8, none⟩ = some (.bool d1) := Go.Joins.cell_of_block Q3.out 8
            clear hb M2 s2 a2_0 a2_1 a2_2 a2_3 a2_4 a2_5 a2_6 a2_7 a2_8
            go_wp2_with fail
            refine (GB.out _ (M3.out.grow (Go.Joins.below_alloc1 _ _)).1).mono ?_
            rintro e u4 ⟨rfl, hb⟩
            have M4 : Hid (Own w u4 (w.heap.size + 1 + 1) (twoT (2 * (p0 % 8).toNat + y) (⟨true, t0, p0, f0, x0, k0, z0, false, d0⟩ : Ln) (2 * (p1 % 8).toNat + q) (⟨true, t1, p1, f1, x1, k1, z1, false, d1⟩ : Ln))) := (M3.out.grow (Go.Joins.below_alloc1 _ _)).grow hb
            have P4 : Hid (u4.heap[w.heap.size]? = some (.cells #[.bool true, .int .i64 t0, .int .i64 p0, .int .i64 f0, .bool x0, .bool k0, .bool z0, .bool false, .bool d0] 26 (0, 0))) := (hb.block _ (by simp; omega)).trans (((Go.Joins.below_alloc1 _ _).block _ (by omega)).trans P3.out)
            have Q4 : Hid (u4.heap[w.heap.size + 1]? = some (.cells #[.bool true, .int .i64 t1, .int .i64 p1, .int .i64 f1, .bool x1, .bool k1, .bool z1, .bool false, .bool d1] 26 (0, 0))) := (hb.block _ (by simp; omega)).trans (((Go.Joins.below_alloc1 _ _).block _ s3).trans Q3.out)
            have X4 : Hid (u4.heap[u3.heap.size]? = some (.cells #[.bool false, .int .i64 0, .int .i64 0, .int .i64 0, .bool false, .bool false, .bool false, .bool false, .bool false] 26 (0, 0))) := (hb.block _ (by simp)).trans (own1 u3 _)
            have s4 : w.heap.size + 1 < u4.heap.size := Nat.lt_of_lt_of_le (by simp; omega) hb.size
            have r4 : u3.heap.size < u4.heap.size := Nat.lt_of_lt_of_le (by simp) hb.size
            have s4a : w.heap.size < u4.heap.size := by omega
            have a4_2 : u4.cell? ⟨w.heap.size, 2, none⟩ = some (.int .i64 p0) := Go.Joins.cell_of_block P4.out 2
            have b4_2 : u4.cell? ⟨w.heap.size + 1, 2, none⟩ = some (.int .i64 p1) := Go.Joins.cell_of_block Q4.out 2
            clear hb M3 b3_0 b3_1 b3_2 b3_3 b3_4 b3_5 b3_6 b3_7 b3_8
            go_wp2_with fail
            refine (AW.out _).mono ?_
            rintro e u5 ⟨rfl, hb⟩
            have M5 : Hid (Own w u5 (w.heap.size + 1 + 1) (twoT (2 * (p0 % 8).toNat + y) (⟨true, t0, p0, f0, x0, k0, z0, false, d0⟩ : Ln) (2 * (p1 % 8).toNat + q) (⟨true, t1, p1, f1, x1, k1, z1, false, d1⟩ : Ln))) := (M4.out.grow (Go.Joins.below_alloc1 _ _)).grow hb
            have P5 : Hid (u5.heap[w.heap.size]? = some (.cells #[.bool true, .int .i64 t0, .int .i64 p0, .int .i64 f0, .bool x0, .bool k0, .bool z0, .bool false, .bool d0] 26 (0, 0))) := (hb.block _ (by simp; omega)).trans (((Go.Joins.below_alloc1 _ _).block _ (by omega)).trans P4.out)
            have Q5 : Hid (u5.heap[w.heap.size + 1]? = some (.cells #[.bool true, .int .i64 t1, .int .i64 p1, .int .i64 f1, .bool x1, .bool k1, .bool z1, .bool false, .bool d1] 26 (0, 0))) := (hb.block _ (by simp; omega)).trans (((Go.Joins.below_alloc1 _ _).block _ s4).trans Q4.out)
            have X5 : Hid (u5.heap[u3.heap.size]? = some (.cells #[.bool false, .int .i64 0, .int .i64 0, .int .i64 0, .bool false, .bool false, .bool false, .bool false, .bool false] 26 (0, 0))) := (hb.block _ (by simp; omega)).trans (((Go.Joins.below_alloc1 _ _).block _ r4).trans X4.out)
            have Y5 : Hid (u5.heap[u4.heap.size]? = some (.cells #[.bool true, .int .i64 t1, .int .i64 p1, .int .i64 f1, .bool x1, .bool k1, .bool z1, .bool false, .bool d1] 26 (0, 0))) := (hb.block _ (by simp)).trans (own1 u4 _)
            have a5_0 : u5.cell? ⟨w.heap.size, 0, none⟩ = some (.bool true) := Go.Joins.cell_of_block P5.out 0
            have a5_1 : u5.cell? ⟨w.heap.size, 1, none⟩ = some (.int .i64 t0) := Go.Joins.cell_of_block P5.out 1
            have a5_2 : u5.cell? ⟨w.heap.size, 2, none⟩ = some (.int .i64 p0) := Go.Joins.cell_of_block P5.out 2
            have a5_3 : u5.cell? ⟨w.heap.size, 3, none⟩ = some (.int .i64 f0) := Go.Joins.cell_of_block P5.out 3
            have a5_4 : u5.cell? ⟨w.heap.size, 4, none⟩ = some (.bool x0) := Go.Joins.cell_of_block P5.out 4
            have a5_5 : u5.cell? ⟨w.heap.size, 5, none⟩ = some (.bool k0) := Go.Joins.cell_of_block P5.out 5
            have a5_6 : u5.cell? ⟨w.heap.size, 6, none⟩ = some (.bool z0) := Go.Joins.cell_of_block P5.out 6
            have a5_7 : u5.cell? ⟨w.heap.size, 7, none⟩ = some (.bool false) := Go.Joins.cell_of_block P5.out 7
            have a5_8 : u5.cell? ⟨w.heap.size, 8, none⟩ = some (.bool d0) := Go.Joins.cell_of_block P5.out 8
            have b5_0 : u5.cell? ⟨w.heap.size + 1, 0, none⟩ = some (.bool true) := Go.Joins.cell_of_block Q5.out 0
            have b5_1 : u5.cell? ⟨w.heap.size + 1, 1, none⟩ = some (.int .i64 t1) := Go.Joins.cell_of_block Q5.out 1
            have b5_2 : u5.cell? ⟨w.heap.size + 1, 2, none⟩ = some (.int .i64 p1) := Go.Joins.cell_of_block Q5.out 2
            have b5_3 : u5.cell? ⟨w.heap.size + 1, 3, none⟩ = some (.int .i64 f1) := Go.Joins.cell_of_block Q5.out 3
            have b5_4 : u5.cell? ⟨w.heap.size + 1, 4, none⟩ = some (.bool x1) := Go.Joins.cell_of_block Q5.out 4
            have b5_5 : u5.cell? ⟨w.heap.size + 1, 5, none⟩ = some (.bool k1) := Go.Joins.cell_of_block Q5.out 5
            have b5_6 : u5.cell? ⟨w.heap.size + 1, 6, none⟩ = some (.bool z1) := Go.Joins.cell_of_block Q5.out 6
            have b5_7 : u5.cell? ⟨w.heap.size + 1, 7, none⟩ = some (.bool false) := Go.Joins.cell_of_block Q5.out 7
            have b5_8 : u5.cell? ⟨w.heap.size + 1, 8, none⟩ = some (.bool d1) := Go.Joins.cell_of_block Q5.out 8
            have x5_0 : u5.cell? ⟨u3.heap.size, 0, none⟩ = some (.bool false) := Go.Joins.cell_of_block X5.out 0
            have x5_1 : u5.cell? ⟨u3.heap.size, 1, none⟩ = some (.int .i64 0) := Go.Joins.cell_of_block X5.out 1
            have x5_2 : u5.cell? ⟨u3.heap.size, 2, none⟩ = some (.int .i64 0) := Go.Joins.cell_of_block X5.out 2
            have x5_3 : u5.cell? ⟨u3.heap.size, 3, none⟩ = some (.int .i64 0) := Go.Joins.cell_of_block X5.out 3
            have x5_4 : u5.cell? ⟨u3.heap.size, 4, none⟩ = some (.bool false) := Go.Joins.cell_of_block X5.out 4
            have x5_5 : u5.cell? ⟨u3.heap.size, 5, none⟩ = some (.bool false) := Go.Joins.cell_of_block X5.out 5
            have x5_6 : u5.cell? ⟨u3.heap.size, 6, none⟩ = some (.bool false) := Go.Joins.cell_of_block X5.out 6
            have x5_7 : u5.cell? ⟨u3.heap.size, 7, none⟩ = some (.bool false) := Go.Joins.cell_of_block X5.out 7
            have x5_8 : u5.cell? ⟨u3.heap.size, 8, none⟩ = some (.bool false) := Go.Joins.cell_of_block X5.out 8
            have y5_0 : u5.cell? ⟨u4.heap.size, 0, none⟩ = some (.bool true) := Go.Joins.cell_of_block Y5.out 0
            have y5_1 : u5.cell? ⟨u4.heap.size, 1, none⟩ = some (.int .i64 t1) := Go.Joins.cell_of_block Y5.out 1
            have y5_2 : u5.cell? ⟨u4.heap.size, 2, none⟩ = some (.int .i64 p1) := Go.Joins.cell_of_block Y5.out 2
            have y5_3 : u5.cell? ⟨u4.heap.size, 3, none⟩ = some (.int .i64 f1) := Go.Joins.cell_of_block Y5.out 3
            have y5_4 : u5.cell? ⟨u4.heap.size, 4, none⟩ = some (.bool x1) := Go.Joins.cell_of_block Y5.out 4
            have y5_5 : u5.cell? ⟨u4.heap.size, 5, none⟩ = some (.bool k1) := Go.Joins.cell_of_block Y5.out 5
            have y5_6 : u5.cell? ⟨u4.heap.size, 6, none⟩ = some (.bool z1) := Go.Joins.cell_of_block Y5.out 6
            have y5_7 : u5.cell? ⟨u4.heap.size, 7, none⟩ = some (.bool false) := Go.Joins.cell_of_block Y5.out 7
            have y5_8 : u5.cell? ⟨u4.heap.size, 8, none⟩ = some (.bool d1) := Go.Joins.cell_of_block Y5.out 8
            clear hb M4 s4 s4a r4 s3 a4_2 b4_2
            go_wp2_with fail
            refine (LI.out _ M5.out.1).mono ?_
            rintro e u6 ⟨⟨pp, n, cc, rfl, hn⟩, hb⟩
            have B6 : Hid (Below w.heap.size w u6) := (M5.out.grow hb).2.1
            have nn : decide ((n : Int) ≤ 2) = true := by simp; omega
            clear hb M5
            go_wp2_with fail
            go_ret
            exact ⟨rfl, B6.out⟩
          · have ey : ((y : Int) != (q : Int)) = true := by simp; omega
            have hi : (2 * (p0 % 8).toNat + y) ≠ (2 * (p1 % 8).toNat + q) := by rw [st]; omega
            clear st
            have FI : Hid (∀ W : World, IsTlb W (w.heap.size + 1 + 1) T0 → Calls Try.prog 18 #[.pointer (some ⟨w.heap.size + 1 + 1, 0, none⟩), .int .i64 y, .agg #[.bool true, .int .i64 t0, .int .i64 p0, .int .i64 f0, .bool x0, .bool k0, .bool z0, .bool false, .bool d0]] W fun e w' => e = .returned (.int .i64 0) ∧ IsTlb w' (w.heap.size + 1 + 1) (oneT (2 * (p0 % 8).toNat + y) (⟨true, t0, p0, f0, x0, k0, z0, false, d0⟩ : Ln)) ∧ W.grownBy w' (some (w.heap.size + 1 + 1))) := fun W h => by
              have hs : (⟨true, t0, p0, f0, x0, k0, z0, false, d0⟩ : Ln).p % 8 = (((p0 % 8).toNat : Nat) : Int) := by show p0 % 8 = _; omega
              refine (fill_ok (w.heap.size + 1 + 1) T0 (⟨true, t0, p0, f0, x0, k0, z0, false, d0⟩ : Ln) y (p0 % 8).toNat hy ok0 hp0 hs W h).mono fun e w' ⟨h1, h2, h3⟩ => ⟨h1, h2.congr (fun i hi => ?_), h3⟩
              have := one_fill y (⟨true, t0, p0, f0, x0, k0, z0, false, d0⟩ : Ln) i hi
              rw [Int.toNat_natCast] at this
              exact this
            have FB : Hid (∀ W : World, IsTlb W (w.heap.size + 1 + 1) (oneT (2 * (p0 % 8).toNat + y) (⟨true, t0, p0, f0, x0, k0, z0, false, d0⟩ : Ln)) → Calls Try.prog 18 #[.pointer (some ⟨w.heap.size + 1 + 1, 0, none⟩), .int .i64 q, .agg #[.bool true, .int .i64 t1, .int .i64 p1, .int .i64 f1, .bool x1, .bool k1, .bool z1, .bool false, .bool d1]] W fun e w' => e = .returned (.int .i64 0) ∧ IsTlb w' (w.heap.size + 1 + 1) (twoT (2 * (p0 % 8).toNat + y) (⟨true, t0, p0, f0, x0, k0, z0, false, d0⟩ : Ln) (2 * (p1 % 8).toNat + q) (⟨true, t1, p1, f1, x1, k1, z1, false, d1⟩ : Ln)) ∧ W.grownBy w' (some (w.heap.size + 1 + 1))) := fun W h => by
              have hs : (⟨true, t1, p1, f1, x1, k1, z1, false, d1⟩ : Ln).p % 8 = (((p1 % 8).toNat : Nat) : Int) := by show p1 % 8 = _; omega
              have hb : (⟨true, t1, p1, f1, x1, k1, z1, false, d1⟩ : Ln).beats (⟨true, t0, p0, f0, x0, k0, z0, false, d0⟩ : Ln) = false := by simp [Ln.beats, Ln.fits, ne1]
              exact (fill_ok (w.heap.size + 1 + 1) _ (⟨true, t1, p1, f1, x1, k1, z1, false, d1⟩ : Ln) q (p1 % 8).toNat hq ok1 hp1 hs W h).mono fun e w' ⟨h1, h2, h3⟩ => ⟨h1, h2.congr (fun i hi => two_fill _ _ (⟨true, t1, p1, f1, x1, k1, z1, false, d1⟩ : Ln) q hb i hi), h3⟩
            have GA : Hid (∀ W : World, IsTlb W (w.heap.size + 1 + 1) (twoT (2 * (p0 % 8).toNat + y) (⟨true, t0, p0, f0, x0, k0, z0, false, d0⟩ : Ln) (2 * (p1 % 8).toNat + q) (⟨true, t1, p1, f1, x1, k1, z1, false, d1⟩ : Ln)) → Calls Try.prog 13 #[.pointer (some ⟨w.heap.size + 1 + 1, 0, none⟩), .int .i64 t0, .int .i64 p0] W fun e w' => e = .returned (.tuple #[.agg #[.bool true, .int .i64 t0, .int .i64 p0, .int .i64 f0, .bool x0, .bool k0, .bool z0, .bool false, .bool d0], .bool true]) ∧ Below W.heap.size W w') := fun W h => by
              have := find_any (w.heap.size + 1 + 1) _ t0 p0 W h
              have e := find_at (twoT (2 * (p0 % 8).toNat + y) (⟨true, t0, p0, f0, x0, k0, z0, false, d0⟩ : Ln) (2 * (p1 % 8).toNat + q) (⟨true, t1, p1, f1, x1, k1, z1, false, d1⟩ : Ln)) t0 p0 hp0 _ rfl y hy (⟨true, t0, p0, f0, x0, k0, z0, false, d0⟩ : Ln) (by unfold twoT oneT; rw [if_neg (by omega), if_pos rfl]) (two_fits _ _ _ _ _ _ _ (fun _ => Ne.symm ne) (fun _ hc => by omega))
              rw [e, show (⟨true, t0, p0, f0, x0, k0, z0, false, d0⟩ : Ln).fits t0 p0 = true by simp [Ln.fits]] at this
              exact this
            have GB : Hid (∀ W : World, IsTlb W (w.heap.size + 1 + 1) (twoT (2 * (p0 % 8).toNat + y) (⟨true, t0, p0, f0, x0, k0, z0, false, d0⟩ : Ln) (2 * (p1 % 8).toNat + q) (⟨true, t1, p1, f1, x1, k1, z1, false, d1⟩ : Ln)) → Calls Try.prog 13 #[.pointer (some ⟨w.heap.size + 1 + 1, 0, none⟩), .int .i64 t1, .int .i64 p1] W fun e w' => e = .returned (.tuple #[.agg #[.bool true, .int .i64 t1, .int .i64 p1, .int .i64 f1, .bool x1, .bool k1, .bool z1, .bool false, .bool d1], .bool true]) ∧ Below W.heap.size W w') := fun W h => by
              have := find_any (w.heap.size + 1 + 1) _ t1 p1 W h
              have e := find_at (twoT (2 * (p0 % 8).toNat + y) (⟨true, t0, p0, f0, x0, k0, z0, false, d0⟩ : Ln) (2 * (p1 % 8).toNat + q) (⟨true, t1, p1, f1, x1, k1, z1, false, d1⟩ : Ln)) t1 p1 hp1 _ rfl q hq (⟨true, t1, p1, f1, x1, k1, z1, false, d1⟩ : Ln) (by unfold twoT; rw [if_pos rfl]) (two_fits _ _ _ _ _ _ _ (fun hc => by omega) (fun _ _ => ne))
              rw [e, show (⟨true, t1, p1, f1, x1, k1, z1, false, d1⟩ : Ln).fits t1 p1 = true by simp [Ln.fits]] at this
              exact this
            have LI : Hid (∀ W : World, IsTlb W (w.heap.size + 1 + 1) (twoT (2 * (p0 % 8).toNat + y) (⟨true, t0, p0, f0, x0, k0, z0, false, d0⟩ : Ln) (2 * (p1 % 8).toNat + q) (⟨true, t1, p1, f1, x1, k1, z1, false, d1⟩ : Ln)) → Calls Try.prog 11 #[.pointer (some ⟨w.heap.size + 1 + 1, 0, none⟩)] W fun e w' => (∃ (p : Option Addr) (n c : Nat), e = .returned (.slice p n c) ∧ n ≤ 2) ∧ Below W.heap.size W w') := fun W h => (lines_any (w.heap.size + 1 + 1) _ W h).mono fun e w' ⟨v, he, ho, hb⟩ => by
              obtain ⟨p, c, rfl⟩ := own_len ho
              exact ⟨⟨p, _, c, he, two_len _ _ _ _⟩, hb⟩
            clear ok0 ok1
            go_enter Try.func7, Try.ntmps7
            go_wp2_with fail
            refine (FI.out _ M.out.1).mono ?_
            rintro e u1 ⟨rfl, h1, h2⟩
            have M1 : Hid (Own w u1 (w.heap.size + 1 + 1) (oneT (2 * (p0 % 8).toNat + y) (⟨true, t0, p0, f0, x0, k0, z0, false, d0⟩ : Ln))) := M.out.next h1 h2
            have P1 : Hid (u1.heap[w.heap.size]? = some (.cells #[.bool true, .int .i64 t0, .int .i64 p0, .int .i64 f0, .bool x0, .bool k0, .bool z0, .bool false, .bool d0] 26 (0, 0))) := (h2.block _ (by simp; omega) (fun e => by have := Option.some.inj e; omega)).trans (own3a w _ _ _)
            have Q1 : Hid (u1.heap[w.heap.size + 1]? = some (.cells #[.bool true, .int .i64 t1, .int .i64 p1, .int .i64 f1, .bool x1, .bool k1, .bool z1, .bool false, .bool d1] 26 (0, 0))) := (h2.block _ (by simp) (fun e => by have := Option.some.inj e; omega)).trans (own3b w _ _ _)
            have s1 : w.heap.size + 1 < u1.heap.size := Nat.lt_of_lt_of_le (by simp) h2.size
            have b1_0 : u1.cell? ⟨w.heap.size + 1, 0, none⟩ = some (.bool true) := Go.Joins.cell_of_block Q1.out 0
            have b1_1 : u1.cell? ⟨w.heap.size + 1, 1, none⟩ = some (.int .i64 t1) := Go.Joins.cell_of_block Q1.out 1
            have b1_2 : u1.cell? ⟨w.heap.size + 1, 2, none⟩ = some (.int .i64 p1) := Go.Joins.cell_of_block Q1.out 2
            have b1_3 : u1.cell? ⟨w.heap.size + 1, 3, none⟩ = some (.int .i64 f1) := Go.Joins.cell_of_block Q1.out 3
            have b1_4 : u1.cell? ⟨w.heap.size + 1, 4, none⟩ = some (.bool x1) := Go.Joins.cell_of_block Q1.out 4
            have b1_5 : u1.cell? ⟨w.heap.size + 1, 5, none⟩ = some (.bool k1) := Go.Joins.cell_of_block Q1.out 5
            have b1_6 : u1.cell? ⟨w.heap.size + 1, 6, none⟩ = some (.bool z1) := Go.Joins.cell_of_block Q1.out 6
            have b1_7 : u1.cell? ⟨w.heap.size + 1, 7, none⟩ = some (.bool false) := Go.Joins.cell_of_block Q1.out 7
            have b1_8 : u1.cell? ⟨w.heap.size + 1, 8, none⟩ = some (.bool d1) := Go.Joins.cell_of_block Q1.out 8
            clear h1 h2 M
            go_wp2_with fail
            refine (FB.out _ M1.out.1).mono ?_
            rintro e u2 ⟨rfl, h1, h2⟩
            have M2 : Hid (Own w u2 (w.heap.size + 1 + 1) (twoT (2 * (p0 % 8).toNat + y) (⟨true, t0, p0, f0, x0, k0, z0, false, d0⟩ : Ln) (2 * (p1 % 8).toNat + q) (⟨true, t1, p1, f1, x1, k1, z1, false, d1⟩ : Ln))) := M1.out.next h1 h2
            have P2 : Hid (u2.heap[w.heap.size]? = some (.cells #[.bool true, .int .i64 t0, .int .i64 p0, .int .i64 f0, .bool x0, .bool k0, .bool z0, .bool false, .bool d0] 26 (0, 0))) := (h2.block _ (by omega) (fun e => by have := Option.some.inj e; omega)).trans P1.out
            have Q2 : Hid (u2.heap[w.heap.size + 1]? = some (.cells #[.bool true, .int .i64 t1, .int .i64 p1, .int .i64 f1, .bool x1, .bool k1, .bool z1, .bool false, .bool d1] 26 (0, 0))) := (h2.block _ s1 (fun e => by have := Option.some.inj e; omega)).trans Q1.out
            have s2 : w.heap.size + 1 < u2.heap.size := Nat.lt_of_lt_of_le s1 h2.size
            have a2_0 : u2.cell? ⟨w.heap.size, 0, none⟩ = some (.bool true) := Go.Joins.cell_of_block P2.out 0
            have a2_1 : u2.cell? ⟨w.heap.size, 1, none⟩ = some (.int .i64 t0) := Go.Joins.cell_of_block P2.out 1
            have a2_2 : u2.cell? ⟨w.heap.size, 2, none⟩ = some (.int .i64 p0) := Go.Joins.cell_of_block P2.out 2
            have a2_3 : u2.cell? ⟨w.heap.size, 3, none⟩ = some (.int .i64 f0) := Go.Joins.cell_of_block P2.out 3
            have a2_4 : u2.cell? ⟨w.heap.size, 4, none⟩ = some (.bool x0) := Go.Joins.cell_of_block P2.out 4
            have a2_5 : u2.cell? ⟨w.heap.size, 5, none⟩ = some (.bool k0) := Go.Joins.cell_of_block P2.out 5
            have a2_6 : u2.cell? ⟨w.heap.size, 6, none⟩ = some (.bool z0) := Go.Joins.cell_of_block P2.out 6
            have a2_7 : u2.cell? ⟨w.heap.size, 7, none⟩ = some (.bool false) := Go.Joins.cell_of_block P2.out 7
            have a2_8 : u2.cell? ⟨w.heap.size, 8, none⟩ = some (.bool d0) := Go.Joins.cell_of_block P2.out 8
            clear h1 h2 M1 s1 b1_0 b1_1 b1_2 b1_3 b1_4 b1_5 b1_6 b1_7 b1_8
            go_wp2_with fail
            refine (GA.out _ M2.out.1).mono ?_
            rintro e u3 ⟨rfl, hb⟩
            have M3 : Hid (Own w u3 (w.heap.size + 1 + 1) (twoT (2 * (p0 % 8).toNat + y) (⟨true, t0, p0, f0, x0, k0, z0, false, d0⟩ : Ln) (2 * (p1 % 8).toNat + q) (⟨true, t1, p1, f1, x1, k1, z1, false, d1⟩ : Ln))) := M2.out.grow hb
            have P3 : Hid (u3.heap[w.heap.size]? = some (.cells #[.bool true, .int .i64 t0, .int .i64 p0, .int .i64 f0, .bool x0, .bool k0, .bool z0, .bool false, .bool d0] 26 (0, 0))) := (hb.block _ (by omega)).trans P2.out
            have Q3 : Hid (u3.heap[w.heap.size + 1]? = some (.cells #[.bool true, .int .i64 t1, .int .i64 p1, .int .i64 f1, .bool x1, .bool k1, .bool z1, .bool false, .bool d1] 26 (0, 0))) := (hb.block _ s2).trans Q2.out
            have s3 : w.heap.size + 1 < u3.heap.size := Nat.lt_of_lt_of_le s2 hb.size
            have b3_0 : u3.cell? ⟨w.heap.size + 1, 0, none⟩ = some (.bool true) := Go.Joins.cell_of_block Q3.out 0
            have b3_1 : u3.cell? ⟨w.heap.size + 1, 1, none⟩ = some (.int .i64 t1) := Go.Joins.cell_of_block Q3.out 1
            have b3_2 : u3.cell? ⟨w.heap.size + 1, 2, none⟩ = some (.int .i64 p1) := Go.Joins.cell_of_block Q3.out 2
            have b3_3 : u3.cell? ⟨w.heap.size + 1, 3, none⟩ = some (.int .i64 f1) := Go.Joins.cell_of_block Q3.out 3
            have b3_4 : u3.cell? ⟨w.heap.size + 1, 4, none⟩ = some (.bool x1) := Go.Joins.cell_of_block Q3.out 4
            have b3_5 : u3.cell? ⟨w.heap.size + 1, 5, none⟩ = some (.bool k1) := Go.Joins.cell_of_block Q3.out 5
            have b3_6 : u3.cell? ⟨w.heap.size + 1, 6, none⟩ = some (.bool z1) := Go.Joins.cell_of_block Q3.out 6
            have b3_7 : u3.cell? ⟨w.heap.size + 1, 7, none⟩ = some (.bool false) := Go.Joins.cell_of_block Q3.out 7
            have b3_8 : u3.cell? ⟨w.heap.size + 1, 8, none⟩ = some (.bool d1) := Go.Joins.cell_of_block Q3.out 8
            clear hb M2 s2 a2_0 a2_1 a2_2 a2_3 a2_4 a2_5 a2_6 a2_7 a2_8
            go_wp2_with fail
            refine (GB.out _ (M3.out.grow (Go.Joins.below_alloc1 _ _)).1).mono ?_
            rintro e u4 ⟨rfl, hb⟩
            have M4 : Hid (Own w u4 (w.heap.size + 1 + 1) (twoT (2 * (p0 % 8).toNat + y) (⟨true, t0, p0, f0, x0, k0, z0, false, d0⟩ : Ln) (2 * (p1 % 8).toNat + q) (⟨true, t1, p1, f1, x1, k1, z1, false, d1⟩ : Ln))) := (M3.out.grow (Go.Joins.below_alloc1 _ _)).grow hb
            have P4 : Hid (u4.heap[w.heap.size]? = some (.cells #[.bool true, .int .i64 t0, .int .i64 p0, .int .i64 f0, .bool x0, .bool k0, .bool z0, .bool false, .bool d0] 26 (0, 0))) := (hb.block _ (by simp; omega)).trans (((Go.Joins.below_alloc1 _ _).block _ (by omega)).trans P3.out)
            have Q4 : Hid (u4.heap[w.heap.size + 1]? = some (.cells #[.bool true, .int .i64 t1, .int .i64 p1, .int .i64 f1, .bool x1, .bool k1, .bool z1, .bool false, .bool d1] 26 (0, 0))) := (hb.block _ (by simp; omega)).trans (((Go.Joins.below_alloc1 _ _).block _ s3).trans Q3.out)
            have X4 : Hid (u4.heap[u3.heap.size]? = some (.cells #[.bool true, .int .i64 t0, .int .i64 p0, .int .i64 f0, .bool x0, .bool k0, .bool z0, .bool false, .bool d0] 26 (0, 0))) := (hb.block _ (by simp)).trans (own1 u3 _)
            have s4 : w.heap.size + 1 < u4.heap.size := Nat.lt_of_lt_of_le (by simp; omega) hb.size
            have r4 : u3.heap.size < u4.heap.size := Nat.lt_of_lt_of_le (by simp) hb.size
            have s4a : w.heap.size < u4.heap.size := by omega
            have a4_2 : u4.cell? ⟨w.heap.size, 2, none⟩ = some (.int .i64 p0) := Go.Joins.cell_of_block P4.out 2
            have b4_2 : u4.cell? ⟨w.heap.size + 1, 2, none⟩ = some (.int .i64 p1) := Go.Joins.cell_of_block Q4.out 2
            clear hb M3 b3_0 b3_1 b3_2 b3_3 b3_4 b3_5 b3_6 b3_7 b3_8
            go_wp2_with fail
            refine (AW.out _).mono ?_
            rintro e u5 ⟨rfl, hb⟩
            have M5 : Hid (Own w u5 (w.heap.size + 1 + 1) (twoT (2 * (p0 % 8).toNat + y) (⟨true, t0, p0, f0, x0, k0, z0, false, d0⟩ : Ln) (2 * (p1 % 8).toNat + q) (⟨true, t1, p1, f1, x1, k1, z1, false, d1⟩ : Ln))) := (M4.out.grow (Go.Joins.below_alloc1 _ _)).grow hb
            have P5 : Hid (u5.heap[w.heap.size]? = some (.cells #[.bool true, .int .i64 t0, .int .i64 p0, .int .i64 f0, .bool x0, .bool k0, .bool z0, .bool false, .bool d0] 26 (0, 0))) := (hb.block _ (by simp; omega)).trans (((Go.Joins.below_alloc1 _ _).block _ (by omega)).trans P4.out)
            have Q5 : Hid (u5.heap[w.heap.size + 1]? = some (.cells #[.bool true, .int .i64 t1, .int .i64 p1, .int .i64 f1, .bool x1, .bool k1, .bool z1, .bool false, .bool d1] 26 (0, 0))) := (hb.block _ (by simp; omega)).trans (((Go.Joins.below_alloc1 _ _).block _ s4).trans Q4.out)
            have X5 : Hid (u5.heap[u3.heap.size]? = some (.cells #[.bool true, .int .i64 t0, .int .i64 p0, .int .i64 f0, .bool x0, .bool k0, .bool z0, .bool false, .bool d0] 26 (0, 0))) := (hb.block _ (by simp; omega)).trans (((Go.Joins.below_alloc1 _ _).block _ r4).trans X4.out)
            have Y5 : Hid (u5.heap[u4.heap.size]? = some (.cells #[.bool true, .int .i64 t1, .int .i64 p1, .int .i64 f1, .bool x1, .bool k1, .bool z1, .bool false, .bool d1] 26 (0, 0))) := (hb.block _ (by simp)).trans (own1 u4 _)
            have a5_0 : u5.cell? ⟨w.heap.size, 0, none⟩ = some (.bool true) := Go.Joins.cell_of_block P5.out 0
            have a5_1 : u5.cell? ⟨w.heap.size, 1, none⟩ = some (.int .i64 t0) := Go.Joins.cell_of_block P5.out 1
            have a5_2 : u5.cell? ⟨w.heap.size, 2, none⟩ = some (.int .i64 p0) := Go.Joins.cell_of_block P5.out 2
            have a5_3 : u5.cell? ⟨w.heap.size, 3, none⟩ = some (.int .i64 f0) := Go.Joins.cell_of_block P5.out 3
            have a5_4 : u5.cell? ⟨w.heap.size, 4, none⟩ = some (.bool x0) := Go.Joins.cell_of_block P5.out 4
            have a5_5 : u5.cell? ⟨w.heap.size, 5, none⟩ = some (.bool k0) := Go.Joins.cell_of_block P5.out 5
            have a5_6 : u5.cell? ⟨w.heap.size, 6, none⟩ = some (.bool z0) := Go.Joins.cell_of_block P5.out 6
            have a5_7 : u5.cell? ⟨w.heap.size, 7, none⟩ = some (.bool false) := Go.Joins.cell_of_block P5.out 7
            have a5_8 : u5.cell? ⟨w.heap.size, 8, none⟩ = some (.bool d0) := Go.Joins.cell_of_block P5.out 8
            have b5_0 : u5.cell? ⟨w.heap.size + 1, 0, none⟩ = some (.bool true) := Go.Joins.cell_of_block Q5.out 0
            have b5_1 : u5.cell? ⟨w.heap.size + 1, 1, none⟩ = some (.int .i64 t1) := Go.Joins.cell_of_block Q5.out 1
            have b5_2 : u5.cell? ⟨w.heap.size + 1, 2, none⟩ = some (.int .i64 p1) := Go.Joins.cell_of_block Q5.out 2
            have b5_3 : u5.cell? ⟨w.heap.size + 1, 3, none⟩ = some (.int .i64 f1) := Go.Joins.cell_of_block Q5.out 3
            have b5_4 : u5.cell? ⟨w.heap.size + 1, 4, none⟩ = some (.bool x1) := Go.Joins.cell_of_block Q5.out 4
            have b5_5 : u5.cell? ⟨w.heap.size + 1, 5, none⟩ = some (.bool k1) := Go.Joins.cell_of_block Q5.out 5
            have b5_6 : u5.cell? ⟨w.heap.size + 1, 6, none⟩ = some (.bool z1) := Go.Joins.cell_of_block Q5.out 6
            have b5_7 : u5.cell? ⟨w.heap.size + 1, 7, none⟩ = some (.bool false) := Go.Joins.cell_of_block Q5.out 7
            have b5_8 : u5.cell? ⟨w.heap.size + 1, 8, none⟩ = some (.bool d1) := Go.Joins.cell_of_block Q5.out 8
            have x5_0 : u5.cell? ⟨u3.heap.size, 0, none⟩ = some (.bool true) := Go.Joins.cell_of_block X5.out 0
            have x5_1 : u5.cell? ⟨u3.heap.size, 1, none⟩ = some (.int .i64 t0) := Go.Joins.cell_of_block X5.out 1
            have x5_2 : u5.cell? ⟨u3.heap.size, 2, none⟩ = some (.int .i64 p0) := Go.Joins.cell_of_block X5.out 2
            have x5_3 : u5.cell? ⟨u3.heap.size, 3, none⟩ = some (.int .i64 f0) := Go.Joins.cell_of_block X5.out 3
            have x5_4 : u5.cell? ⟨u3.heap.size, 4, none⟩ = some (.bool x0) := Go.Joins.cell_of_block X5.out 4
            have x5_5 : u5.cell? ⟨u3.heap.size, 5, none⟩ = some (.bool k0) := Go.Joins.cell_of_block X5.out 5
            have x5_6 : u5.cell? ⟨u3.heap.size, 6, none⟩ = some (.bool z0) := Go.Joins.cell_of_block X5.out 6
            have x5_7 : u5.cell? ⟨u3.heap.size, 7, none⟩ = some (.bool false) := Go.Joins.cell_of_block X5.out 7
            have x5_8 : u5.cell? ⟨u3.heap.size, 8, none⟩ = some (.bool d0) := Go.Joins.cell_of_block X5.out 8
            have y5_0 : u5.cell? ⟨u4.heap.size, 0, none⟩ = some (.bool true) := Go.Joins.cell_of_block Y5.out 0
            have y5_1 : u5.cell? ⟨u4.heap.size, 1, none⟩ = some (.int .i64 t1) := Go.Joins.cell_of_block Y5.out 1
            have y5_2 : u5.cell? ⟨u4.heap.size, 2, none⟩ = some (.int .i64 p1) := Go.Joins.cell_of_block Y5.out 2
            have y5_3 : u5.cell? ⟨u4.heap.size, 3, none⟩ = some (.int .i64 f1) := Go.Joins.cell_of_block Y5.out 3
            have y5_4 : u5.cell? ⟨u4.heap.size, 4, none⟩ = some (.bool x1) := Go.Joins.cell_of_block Y5.out 4
            have y5_5 : u5.cell? ⟨u4.heap.size, 5, none⟩ = some (.bool k1) := Go.Joins.cell_of_block Y5.out 5
            have y5_6 : u5.cell? ⟨u4.heap.size, 6, none⟩ = some (.bool z1) := Go.Joins.cell_of_block Y5.out 6
            have y5_7 : u5.cell? ⟨u4.heap.size, 7, none⟩ = some (.bool false) := Go.Joins.cell_of_block Y5.out 7
            have y5_8 : u5.cell? ⟨u4.heap.size, 8, none⟩ = some (.bool d1) := Go.Joins.cell_of_block Y5.out 8
            clear hb M4 s4 s4a r4 s3 a4_2 b4_2
            go_wp2_with fail
            refine (LI.out _ M5.out.1).mono ?_
            rintro e u6 ⟨⟨pp, n, cc, rfl, hn⟩, hb⟩
            have B6 : Hid (Below w.heap.size w u6) := (M5.out.grow hb).2.1
            have nn : decide ((n : Int) ≤ 2) = true := by simp; omega
            clear hb M5
            go_wp2_with fail
            go_ret
            exact ⟨rfl, B6.out⟩
        · have e8 : (p0 % 8 != p1 % 8) = true := by simp [st]
          have hi : (2 * (p0 % 8).toNat + y) ≠ (2 * (p1 % 8).toNat + q) := by omega
          clear st
          have FI : Hid (∀ W : World, IsTlb W (w.heap.size + 1 + 1) T0 → Calls Try.prog 18 #[.pointer (some ⟨w.heap.size + 1 + 1, 0, none⟩), .int .i64 y, .agg #[.bool true, .int .i64 t0, .int .i64 p0, .int .i64 f0, .bool x0, .bool k0, .bool z0, .bool false, .bool d0]] W fun e w' => e = .returned (.int .i64 0) ∧ IsTlb w' (w.heap.size + 1 + 1) (oneT (2 * (p0 % 8).toNat + y) (⟨true, t0, p0, f0, x0, k0, z0, false, d0⟩ : Ln)) ∧ W.grownBy w' (some (w.heap.size + 1 + 1))) := fun W h => by
            have hs : (⟨true, t0, p0, f0, x0, k0, z0, false, d0⟩ : Ln).p % 8 = (((p0 % 8).toNat : Nat) : Int) := by show p0 % 8 = _; omega
            refine (fill_ok (w.heap.size + 1 + 1) T0 (⟨true, t0, p0, f0, x0, k0, z0, false, d0⟩ : Ln) y (p0 % 8).toNat hy ok0 hp0 hs W h).mono fun e w' ⟨h1, h2, h3⟩ => ⟨h1, h2.congr (fun i hi => ?_), h3⟩
            have := one_fill y (⟨true, t0, p0, f0, x0, k0, z0, false, d0⟩ : Ln) i hi
            rw [Int.toNat_natCast] at this
            exact this
          have FB : Hid (∀ W : World, IsTlb W (w.heap.size + 1 + 1) (oneT (2 * (p0 % 8).toNat + y) (⟨true, t0, p0, f0, x0, k0, z0, false, d0⟩ : Ln)) → Calls Try.prog 18 #[.pointer (some ⟨w.heap.size + 1 + 1, 0, none⟩), .int .i64 q, .agg #[.bool true, .int .i64 t1, .int .i64 p1, .int .i64 f1, .bool x1, .bool k1, .bool z1, .bool false, .bool d1]] W fun e w' => e = .returned (.int .i64 0) ∧ IsTlb w' (w.heap.size + 1 + 1) (twoT (2 * (p0 % 8).toNat + y) (⟨true, t0, p0, f0, x0, k0, z0, false, d0⟩ : Ln) (2 * (p1 % 8).toNat + q) (⟨true, t1, p1, f1, x1, k1, z1, false, d1⟩ : Ln)) ∧ W.grownBy w' (some (w.heap.size + 1 + 1))) := fun W h => by
            have hs : (⟨true, t1, p1, f1, x1, k1, z1, false, d1⟩ : Ln).p % 8 = (((p1 % 8).toNat : Nat) : Int) := by show p1 % 8 = _; omega
            have hb : (⟨true, t1, p1, f1, x1, k1, z1, false, d1⟩ : Ln).beats (⟨true, t0, p0, f0, x0, k0, z0, false, d0⟩ : Ln) = false := by simp [Ln.beats, Ln.fits, ne1]
            exact (fill_ok (w.heap.size + 1 + 1) _ (⟨true, t1, p1, f1, x1, k1, z1, false, d1⟩ : Ln) q (p1 % 8).toNat hq ok1 hp1 hs W h).mono fun e w' ⟨h1, h2, h3⟩ => ⟨h1, h2.congr (fun i hi => two_fill _ _ (⟨true, t1, p1, f1, x1, k1, z1, false, d1⟩ : Ln) q hb i hi), h3⟩
          have GA : Hid (∀ W : World, IsTlb W (w.heap.size + 1 + 1) (twoT (2 * (p0 % 8).toNat + y) (⟨true, t0, p0, f0, x0, k0, z0, false, d0⟩ : Ln) (2 * (p1 % 8).toNat + q) (⟨true, t1, p1, f1, x1, k1, z1, false, d1⟩ : Ln)) → Calls Try.prog 13 #[.pointer (some ⟨w.heap.size + 1 + 1, 0, none⟩), .int .i64 t0, .int .i64 p0] W fun e w' => e = .returned (.tuple #[.agg #[.bool true, .int .i64 t0, .int .i64 p0, .int .i64 f0, .bool x0, .bool k0, .bool z0, .bool false, .bool d0], .bool true]) ∧ Below W.heap.size W w') := fun W h => by
            have := find_any (w.heap.size + 1 + 1) _ t0 p0 W h
            have e := find_at (twoT (2 * (p0 % 8).toNat + y) (⟨true, t0, p0, f0, x0, k0, z0, false, d0⟩ : Ln) (2 * (p1 % 8).toNat + q) (⟨true, t1, p1, f1, x1, k1, z1, false, d1⟩ : Ln)) t0 p0 hp0 _ rfl y hy (⟨true, t0, p0, f0, x0, k0, z0, false, d0⟩ : Ln) (by unfold twoT oneT; rw [if_neg (by omega), if_pos rfl]) (two_fits _ _ _ _ _ _ _ (fun _ => Ne.symm ne) (fun _ hc => by omega))
            rw [e, show (⟨true, t0, p0, f0, x0, k0, z0, false, d0⟩ : Ln).fits t0 p0 = true by simp [Ln.fits]] at this
            exact this
          have GB : Hid (∀ W : World, IsTlb W (w.heap.size + 1 + 1) (twoT (2 * (p0 % 8).toNat + y) (⟨true, t0, p0, f0, x0, k0, z0, false, d0⟩ : Ln) (2 * (p1 % 8).toNat + q) (⟨true, t1, p1, f1, x1, k1, z1, false, d1⟩ : Ln)) → Calls Try.prog 13 #[.pointer (some ⟨w.heap.size + 1 + 1, 0, none⟩), .int .i64 t1, .int .i64 p1] W fun e w' => e = .returned (.tuple #[.agg #[.bool true, .int .i64 t1, .int .i64 p1, .int .i64 f1, .bool x1, .bool k1, .bool z1, .bool false, .bool d1], .bool true]) ∧ Below W.heap.size W w') := fun W h => by
            have := find_any (w.heap.size + 1 + 1) _ t1 p1 W h
            have e := find_at (twoT (2 * (p0 % 8).toNat + y) (⟨true, t0, p0, f0, x0, k0, z0, false, d0⟩ : Ln) (2 * (p1 % 8).toNat + q) (⟨true, t1, p1, f1, x1, k1, z1, false, d1⟩ : Ln)) t1 p1 hp1 _ rfl q hq (⟨true, t1, p1, f1, x1, k1, z1, false, d1⟩ : Ln) (by unfold twoT; rw [if_pos rfl]) (two_fits _ _ _ _ _ _ _ (fun hc => by omega) (fun _ _ => ne))
            rw [e, show (⟨true, t1, p1, f1, x1, k1, z1, false, d1⟩ : Ln).fits t1 p1 = true by simp [Ln.fits]] at this
            exact this
          have LI : Hid (∀ W : World, IsTlb W (w.heap.size + 1 + 1) (twoT (2 * (p0 % 8).toNat + y) (⟨true, t0, p0, f0, x0, k0, z0, false, d0⟩ : Ln) (2 * (p1 % 8).toNat + q) (⟨true, t1, p1, f1, x1, k1, z1, false, d1⟩ : Ln)) → Calls Try.prog 11 #[.pointer (some ⟨w.heap.size + 1 + 1, 0, none⟩)] W fun e w' => (∃ (p : Option Addr) (n c : Nat), e = .returned (.slice p n c) ∧ n ≤ 2) ∧ Below W.heap.size W w') := fun W h => (lines_any (w.heap.size + 1 + 1) _ W h).mono fun e w' ⟨v, he, ho, hb⟩ => by
            obtain ⟨p, c, rfl⟩ := own_len ho
            exact ⟨⟨p, _, c, he, two_len _ _ _ _⟩, hb⟩
          clear ok0 ok1
          go_enter Try.func7, Try.ntmps7
          go_wp2_with fail
          refine (FI.out _ M.out.1).mono ?_
          rintro e u1 ⟨rfl, h1, h2⟩
          have M1 : Hid (Own w u1 (w.heap.size + 1 + 1) (oneT (2 * (p0 % 8).toNat + y) (⟨true, t0, p0, f0, x0, k0, z0, false, d0⟩ : Ln))) := M.out.next h1 h2
          have P1 : Hid (u1.heap[w.heap.size]? = some (.cells #[.bool true, .int .i64 t0, .int .i64 p0, .int .i64 f0, .bool x0, .bool k0, .bool z0, .bool false, .bool d0] 26 (0, 0))) := (h2.block _ (by simp; omega) (fun e => by have := Option.some.inj e; omega)).trans (own3a w _ _ _)
          have Q1 : Hid (u1.heap[w.heap.size + 1]? = some (.cells #[.bool true, .int .i64 t1, .int .i64 p1, .int .i64 f1, .bool x1, .bool k1, .bool z1, .bool false, .bool d1] 26 (0, 0))) := (h2.block _ (by simp) (fun e => by have := Option.some.inj e; omega)).trans (own3b w _ _ _)
          have s1 : w.heap.size + 1 < u1.heap.size := Nat.lt_of_lt_of_le (by simp) h2.size
          have b1_0 : u1.cell? ⟨w.heap.size + 1, 0, none⟩ = some (.bool true) := Go.Joins.cell_of_block Q1.out 0
          have b1_1 : u1.cell? ⟨w.heap.size + 1, 1, none⟩ = some (.int .i64 t1) := Go.Joins.cell_of_block Q1.out 1
          have b1_2 : u1.cell? ⟨w.heap.size + 1, 2, none⟩ = some (.int .i64 p1) := Go.Joins.cell_of_block Q1.out 2
          have b1_3 : u1.cell? ⟨w.heap.size + 1, 3, none⟩ = some (.int .i64 f1) := Go.Joins.cell_of_block Q1.out 3
          have b1_4 : u1.cell? ⟨w.heap.size + 1, 4, none⟩ = some (.bool x1) := Go.Joins.cell_of_block Q1.out 4
          have b1_5 : u1.cell? ⟨w.heap.size + 1, 5, none⟩ = some (.bool k1) := Go.Joins.cell_of_block Q1.out 5
          have b1_6 : u1.cell? ⟨w.heap.size + 1, 6, none⟩ = some (.bool z1) := Go.Joins.cell_of_block Q1.out 6
          have b1_7 : u1.cell? ⟨w.heap.size + 1, 7, none⟩ = some (.bool false) := Go.Joins.cell_of_block Q1.out 7
          have b1_8 : u1.cell? ⟨w.heap.size + 1, 8, none⟩ = some (.bool d1) := Go.Joins.cell_of_block Q1.out 8
          clear h1 h2 M
          go_wp2_with fail
          refine (FB.out _ M1.out.1).mono ?_
          rintro e u2 ⟨rfl, h1, h2⟩
          have M2 : Hid (Own w u2 (w.heap.size + 1 + 1) (twoT (2 * (p0 % 8).toNat + y) (⟨true, t0, p0, f0, x0, k0, z0, false, d0⟩ : Ln) (2 * (p1 % 8).toNat + q) (⟨true, t1, p1, f1, x1, k1, z1, false, d1⟩ : Ln))) := M1.out.next h1 h2
          have P2 : Hid (u2.heap[w.heap.size]? = some (.cells #[.bool true, .int .i64 t0, .int .i64 p0, .int .i64 f0, .bool x0, .bool k0, .bool z0, .bool false, .bool d0] 26 (0, 0))) := (h2.block _ (by omega) (fun e => by have := Option.some.inj e; omega)).trans P1.out
          have Q2 : Hid (u2.heap[w.heap.size + 1]? = some (.cells #[.bool true, .int .i64 t1, .int .i64 p1, .int .i64 f1, .bool x1, .bool k1, .bool z1, .bool false, .bool d1] 26 (0, 0))) := (h2.block _ s1 (fun e => by have := Option.some.inj e; omega)).trans Q1.out
          have s2 : w.heap.size + 1 < u2.heap.size := Nat.lt_of_lt_of_le s1 h2.size
          have a2_0 : u2.cell? ⟨w.heap.size, 0, none⟩ = some (.bool true) := Go.Joins.cell_of_block P2.out 0
          have a2_1 : u2.cell? ⟨w.heap.size, 1, none⟩ = some (.int .i64 t0) := Go.Joins.cell_of_block P2.out 1
          have a2_2 : u2.cell? ⟨w.heap.size, 2, none⟩ = some (.int .i64 p0) := Go.Joins.cell_of_block P2.out 2
          have a2_3 : u2.cell? ⟨w.heap.size, 3, none⟩ = some (.int .i64 f0) := Go.Joins.cell_of_block P2.out 3
          have a2_4 : u2.cell? ⟨w.heap.size, 4, none⟩ = some (.bool x0) := Go.Joins.cell_of_block P2.out 4
          have a2_5 : u2.cell? ⟨w.heap.size, 5, none⟩ = some (.bool k0) := Go.Joins.cell_of_block P2.out 5
          have a2_6 : u2.cell? ⟨w.heap.size, 6, none⟩ = some (.bool z0) := Go.Joins.cell_of_block P2.out 6
          have a2_7 : u2.cell? ⟨w.heap.size, 7, none⟩ = some (.bool false) := Go.Joins.cell_of_block P2.out 7
          have a2_8 : u2.cell? ⟨w.heap.size, 8, none⟩ = some (.bool d0) := Go.Joins.cell_of_block P2.out 8
          clear h1 h2 M1 s1 b1_0 b1_1 b1_2 b1_3 b1_4 b1_5 b1_6 b1_7 b1_8
          go_wp2_with fail
          refine (GA.out _ M2.out.1).mono ?_
          rintro e u3 ⟨rfl, hb⟩
          have M3 : Hid (Own w u3 (w.heap.size + 1 + 1) (twoT (2 * (p0 % 8).toNat + y) (⟨true, t0, p0, f0, x0, k0, z0, false, d0⟩ : Ln) (2 * (p1 % 8).toNat + q) (⟨true, t1, p1, f1, x1, k1, z1, false, d1⟩ : Ln))) := M2.out.grow hb
          have P3 : Hid (u3.heap[w.heap.size]? = some (.cells #[.bool true, .int .i64 t0, .int .i64 p0, .int .i64 f0, .bool x0, .bool k0, .bool z0, .bool false, .bool d0] 26 (0, 0))) := (hb.block _ (by omega)).trans P2.out
          have Q3 : Hid (u3.heap[w.heap.size + 1]? = some (.cells #[.bool true, .int .i64 t1, .int .i64 p1, .int .i64 f1, .bool x1, .bool k1, .bool z1, .bool false, .bool d1] 26 (0, 0))) := (hb.block _ s2).trans Q2.out
          have s3 : w.heap.size + 1 < u3.heap.size := Nat.lt_of_lt_of_le s2 hb.size
          have b3_0 : u3.cell? ⟨w.heap.size + 1, 0, none⟩ = some (.bool true) := Go.Joins.cell_of_block Q3.out 0
          have b3_1 : u3.cell? ⟨w.heap.size + 1, 1, none⟩ = some (.int .i64 t1) := Go.Joins.cell_of_block Q3.out 1
          have b3_2 : u3.cell? ⟨w.heap.size + 1, 2, none⟩ = some (.int .i64 p1) := Go.Joins.cell_of_block Q3.out 2
          have b3_3 : u3.cell? ⟨w.heap.size + 1, 3, none⟩ = some (.int .i64 f1) := Go.Joins.cell_of_block Q3.out 3
          have b3_4 : u3.cell? ⟨w.heap.size + 1, 4, none⟩ = some (.bool x1) := Go.Joins.cell_of_block Q3.out 4
          have b3_5 : u3.cell? ⟨w.heap.size + 1, 5, none⟩ = some (.bool k1) := Go.Joins.cell_of_block Q3.out 5
          have b3_6 : u3.cell? ⟨w.heap.size + 1, 6, none⟩ = some (.bool z1) := Go.Joins.cell_of_block Q3.out 6
          have b3_7 : u3.cell? ⟨w.heap.size + 1, 7, none⟩ = some (.bool false) := Go.Joins.cell_of_block Q3.out 7
          have b3_8 : u3.cell? ⟨w.heap.size + 1, 8, none⟩ = some (.bool d1) := Go.Joins.cell_of_block Q3.out 8
          clear hb M2 s2 a2_0 a2_1 a2_2 a2_3 a2_4 a2_5 a2_6 a2_7 a2_8
          go_wp2_with fail
          refine (GB.out _ (M3.out.grow (Go.Joins.below_alloc1 _ _)).1).mono ?_
          rintro e u4 ⟨rfl, hb⟩
          have M4 : Hid (Own w u4 (w.heap.size + 1 + 1) (twoT (2 * (p0 % 8).toNat + y) (⟨true, t0, p0, f0, x0, k0, z0, false, d0⟩ : Ln) (2 * (p1 % 8).toNat + q) (⟨true, t1, p1, f1, x1, k1, z1, false, d1⟩ : Ln))) := (M3.out.grow (Go.Joins.below_alloc1 _ _)).grow hb
          have P4 : Hid (u4.heap[w.heap.size]? = some (.cells #[.bool true, .int .i64 t0, .int .i64 p0, .int .i64 f0, .bool x0, .bool k0, .bool z0, .bool false, .bool d0] 26 (0, 0))) := (hb.block _ (by simp; omega)).trans (((Go.Joins.below_alloc1 _ _).block _ (by omega)).trans P3.out)
          have Q4 : Hid (u4.heap[w.heap.size + 1]? = some (.cells #[.bool true, .int .i64 t1, .int .i64 p1, .int .i64 f1, .bool x1, .bool k1, .bool z1, .bool false, .bool d1] 26 (0, 0))) := (hb.block _ (by simp; omega)).trans (((Go.Joins.below_alloc1 _ _).block _ s3).trans Q3.out)
          have X4 : Hid (u4.heap[u3.heap.size]? = some (.cells #[.bool true, .int .i64 t0, .int .i64 p0, .int .i64 f0, .bool x0, .bool k0, .bool z0, .bool false, .bool d0] 26 (0, 0))) := (hb.block _ (by simp)).trans (own1 u3 _)
          have s4 : w.heap.size + 1 < u4.heap.size := Nat.lt_of_lt_of_le (by simp; omega) hb.size
          have r4 : u3.heap.size < u4.heap.size := Nat.lt_of_lt_of_le (by simp) hb.size
          have s4a : w.heap.size < u4.heap.size := by omega
          have a4_2 : u4.cell? ⟨w.heap.size, 2, none⟩ = some (.int .i64 p0) := Go.Joins.cell_of_block P4.out 2
          have b4_2 : u4.cell? ⟨w.heap.size + 1, 2, none⟩ = some (.int .i64 p1) := Go.Joins.cell_of_block Q4.out 2
          clear hb M3 b3_0 b3_1 b3_2 b3_3 b3_4 b3_5 b3_6 b3_7 b3_8
          go_wp2_with fail
          refine (AW.out _).mono ?_
          rintro e u5 ⟨rfl, hb⟩
          have M5 : Hid (Own w u5 (w.heap.size + 1 + 1) (twoT (2 * (p0 % 8).toNat + y) (⟨true, t0, p0, f0, x0, k0, z0, false, d0⟩ : Ln) (2 * (p1 % 8).toNat + q) (⟨true, t1, p1, f1, x1, k1, z1, false, d1⟩ : Ln))) := (M4.out.grow (Go.Joins.below_alloc1 _ _)).grow hb
          have P5 : Hid (u5.heap[w.heap.size]? = some (.cells #[.bool true, .int .i64 t0, .int .i64 p0, .int .i64 f0, .bool x0, .bool k0, .bool z0, .bool false, .bool d0] 26 (0, 0))) := (hb.block _ (by simp; omega)).trans (((Go.Joins.below_alloc1 _ _).block _ (by omega)).trans P4.out)
          have Q5 : Hid (u5.heap[w.heap.size + 1]? = some (.cells #[.bool true, .int .i64 t1, .int .i64 p1, .int .i64 f1, .bool x1, .bool k1, .bool z1, .bool false, .bool d1] 26 (0, 0))) := (hb.block _ (by simp; omega)).trans (((Go.Joins.below_alloc1 _ _).block _ s4).trans Q4.out)
          have X5 : Hid (u5.heap[u3.heap.size]? = some (.cells #[.bool true, .int .i64 t0, .int .i64 p0, .int .i64 f0, .bool x0, .bool k0, .bool z0, .bool false, .bool d0] 26 (0, 0))) := (hb.block _ (by simp; omega)).trans (((Go.Joins.below_alloc1 _ _).block _ r4).trans X4.out)
          have Y5 : Hid (u5.heap[u4.heap.size]? = some (.cells #[.bool true, .int .i64 t1, .int .i64 p1, .int .i64 f1, .bool x1, .bool k1, .bool z1, .bool false, .bool d1] 26 (0, 0))) := (hb.block _ (by simp)).trans (own1 u4 _)
          have a5_0 : u5.cell? ⟨w.heap.size, 0, none⟩ = some (.bool true) := Go.Joins.cell_of_block P5.out 0
          have a5_1 : u5.cell? ⟨w.heap.size, 1, none⟩ = some (.int .i64 t0) := Go.Joins.cell_of_block P5.out 1
          have a5_2 : u5.cell? ⟨w.heap.size, 2, none⟩ = some (.int .i64 p0) := Go.Joins.cell_of_block P5.out 2
          have a5_3 : u5.cell? ⟨w.heap.size, 3, none⟩ = some (.int .i64 f0) := Go.Joins.cell_of_block P5.out 3
          have a5_4 : u5.cell? ⟨w.heap.size, 4, none⟩ = some (.bool x0) := Go.Joins.cell_of_block P5.out 4
          have a5_5 : u5.cell? ⟨w.heap.size, 5, none⟩ = some (.bool k0) := Go.Joins.cell_of_block P5.out 5
          have a5_6 : u5.cell? ⟨w.heap.size, 6, none⟩ = some (.bool z0) := Go.Joins.cell_of_block P5.out 6
          have a5_7 : u5.cell? ⟨w.heap.size, 7, none⟩ = some (.bool false) := Go.Joins.cell_of_block P5.out 7
          have a5_8 : u5.cell? ⟨w.heap.size, 8, none⟩ = some (.bool d0) := Go.Joins.cell_of_block P5.out 8
          have b5_0 : u5.cell? ⟨w.heap.size + 1, 0, none⟩ = some (.bool true) := Go.Joins.cell_of_block Q5.out 0
          have b5_1 : u5.cell? ⟨w.heap.size + 1, 1, none⟩ = some (.int .i64 t1) := Go.Joins.cell_of_block Q5.out 1
          have b5_2 : u5.cell? ⟨w.heap.size + 1, 2, none⟩ = some (.int .i64 p1) := Go.Joins.cell_of_block Q5.out 2
          have b5_3 : u5.cell? ⟨w.heap.size + 1, 3, none⟩ = some (.int .i64 f1) := Go.Joins.cell_of_block Q5.out 3
          have b5_4 : u5.cell? ⟨w.heap.size + 1, 4, none⟩ = some (.bool x1) := Go.Joins.cell_of_block Q5.out 4
          have b5_5 : u5.cell? ⟨w.heap.size + 1, 5, none⟩ = some (.bool k1) := Go.Joins.cell_of_block Q5.out 5
          have b5_6 : u5.cell? ⟨w.heap.size + 1, 6, none⟩ = some (.bool z1) := Go.Joins.cell_of_block Q5.out 6
          have b5_7 : u5.cell? ⟨w.heap.size + 1, 7, none⟩ = some (.bool false) := Go.Joins.cell_of_block Q5.out 7
          have b5_8 : u5.cell? ⟨w.heap.size + 1, 8, none⟩ = some (.bool d1) := Go.Joins.cell_of_block Q5.out 8
          have x5_0 : u5.cell? ⟨u3.heap.size, 0, none⟩ = some (.bool true) := Go.Joins.cell_of_block X5.out 0
          have x5_1 : u5.cell? ⟨u3.heap.size, 1, none⟩ = some (.int .i64 t0) := Go.Joins.cell_of_block X5.out 1
          have x5_2 : u5.cell? ⟨u3.heap.size, 2, none⟩ = some (.int .i64 p0) := Go.Joins.cell_of_block X5.out 2
          have x5_3 : u5.cell? ⟨u3.heap.size, 3, none⟩ = some (.int .i64 f0) := Go.Joins.cell_of_block X5.out 3
          have x5_4 : u5.cell? ⟨u3.heap.size, 4, none⟩ = some (.bool x0) := Go.Joins.cell_of_block X5.out 4
          have x5_5 : u5.cell? ⟨u3.heap.size, 5, none⟩ = some (.bool k0) := Go.Joins.cell_of_block X5.out 5
          have x5_6 : u5.cell? ⟨u3.heap.size, 6, none⟩ = some (.bool z0) := Go.Joins.cell_of_block X5.out 6
          have x5_7 : u5.cell? ⟨u3.heap.size, 7, none⟩ = some (.bool false) := Go.Joins.cell_of_block X5.out 7
          have x5_8 : u5.cell? ⟨u3.heap.size, 8, none⟩ = some (.bool d0) := Go.Joins.cell_of_block X5.out 8
          have y5_0 : u5.cell? ⟨u4.heap.size, 0, none⟩ = some (.bool true) := Go.Joins.cell_of_block Y5.out 0
          have y5_1 : u5.cell? ⟨u4.heap.size, 1, none⟩ = some (.int .i64 t1) := Go.Joins.cell_of_block Y5.out 1
          have y5_2 : u5.cell? ⟨u4.heap.size, 2, none⟩ = some (.int .i64 p1) := Go.Joins.cell_of_block Y5.out 2
          have y5_3 : u5.cell? ⟨u4.heap.size, 3, none⟩ = some (.int .i64 f1) := Go.Joins.cell_of_block Y5.out 3
          have y5_4 : u5.cell? ⟨u4.heap.size, 4, none⟩ = some (.bool x1) := Go.Joins.cell_of_block Y5.out 4
          have y5_5 : u5.cell? ⟨u4.heap.size, 5, none⟩ = some (.bool k1) := Go.Joins.cell_of_block Y5.out 5
          have y5_6 : u5.cell? ⟨u4.heap.size, 6, none⟩ = some (.bool z1) := Go.Joins.cell_of_block Y5.out 6
          have y5_7 : u5.cell? ⟨u4.heap.size, 7, none⟩ = some (.bool false) := Go.Joins.cell_of_block Y5.out 7
          have y5_8 : u5.cell? ⟨u4.heap.size, 8, none⟩ = some (.bool d1) := Go.Joins.cell_of_block Y5.out 8
          clear hb M4 s4 s4a r4 s3 a4_2 b4_2
          go_wp2_with fail
          refine (LI.out _ M5.out.1).mono ?_
          rintro e u6 ⟨⟨pp, n, cc, rfl, hn⟩, hb⟩
          have B6 : Hid (Below w.heap.size w u6) := (M5.out.grow hb).2.1
          have nn : decide ((n : Int) ≤ 2) = true := by simp; omega
          clear hb M5
          go_wp2_with fail
          go_ret
          exact ⟨rfl, B6.out⟩
      · have FR : Hid (∀ W : World, Calls Try.prog 18 #[.pointer (some ⟨w.heap.size + 1 + 1, 0, none⟩), .int .i64 a3, .agg #[.bool v1, .int .i64 t1, .int .i64 p1, .int .i64 f1, .bool x1, .bool k1, .bool z1, .bool false, .bool d1]] W fun e w' => e = .returned (.int .i64 1) ∧ Below W.heap.size W w') := fun W => by
          by_cases c : a3 < 0 ∨ 2 ≤ a3
          · exact fill_way (w.heap.size + 1 + 1) (⟨v1, t1, p1, f1, x1, k1, z1, false, d1⟩ : Ln) a3 c W
          · have hl : (⟨v1, t1, p1, f1, x1, k1, z1, false, d1⟩ : Ln).ok = false := by
              cases hq : (⟨v1, t1, p1, f1, x1, k1, z1, false, d1⟩ : Ln).ok
              · rfl
              · exact absurd ⟨by omega, by omega, hq⟩ hv
            exact fill_form (w.heap.size + 1 + 1) (⟨v1, t1, p1, f1, x1, k1, z1, false, d1⟩ : Ln) a3 (by omega) (by omega) hl W
        have FI : Hid (∀ W : World, IsTlb W (w.heap.size + 1 + 1) T0 → Calls Try.prog 18 #[.pointer (some ⟨w.heap.size + 1 + 1, 0, none⟩), .int .i64 y, .agg #[.bool true, .int .i64 t0, .int .i64 p0, .int .i64 f0, .bool x0, .bool k0, .bool z0, .bool false, .bool d0]] W fun e w' => e = .returned (.int .i64 0) ∧ IsTlb w' (w.heap.size + 1 + 1) (oneT (2 * (p0 % 8).toNat + y) (⟨true, t0, p0, f0, x0, k0, z0, false, d0⟩ : Ln)) ∧ W.grownBy w' (some (w.heap.size + 1 + 1))) := fun W h => by
          have hs : (⟨true, t0, p0, f0, x0, k0, z0, false, d0⟩ : Ln).p % 8 = (((p0 % 8).toNat : Nat) : Int) := by show p0 % 8 = _; omega
          refine (fill_ok (w.heap.size + 1 + 1) T0 (⟨true, t0, p0, f0, x0, k0, z0, false, d0⟩ : Ln) y (p0 % 8).toNat hy ok0 hp0 hs W h).mono fun e w' ⟨h1, h2, h3⟩ => ⟨h1, h2.congr (fun i hi => ?_), h3⟩
          have := one_fill y (⟨true, t0, p0, f0, x0, k0, z0, false, d0⟩ : Ln) i hi
          rw [Int.toNat_natCast] at this
          exact this
        clear hv hs hzz ok0
        go_enter Try.func7, Try.ntmps7
        go_wp2_with fail
        refine (FI.out _ M.out.1).mono ?_
        rintro e u1 ⟨rfl, h1, h2⟩
        have M1 : Hid (Own w u1 (w.heap.size + 1 + 1) (oneT (2 * (p0 % 8).toNat + y) (⟨true, t0, p0, f0, x0, k0, z0, false, d0⟩ : Ln))) := M.out.next h1 h2
        have Q1 : Hid (u1.heap[w.heap.size + 1]? = some (.cells #[.bool v1, .int .i64 t1, .int .i64 p1, .int .i64 f1, .bool x1, .bool k1, .bool z1, .bool false, .bool d1] 26 (0, 0))) := (h2.block _ (by simp) (fun e => by have := Option.some.inj e; omega)).trans (own3b w _ _ _)
        have s1 : w.heap.size + 1 < u1.heap.size := Nat.lt_of_lt_of_le (by simp) h2.size
        have b1_0 : u1.cell? ⟨w.heap.size + 1, 0, none⟩ = some (.bool v1) := Go.Joins.cell_of_block Q1.out 0
        have b1_1 : u1.cell? ⟨w.heap.size + 1, 1, none⟩ = some (.int .i64 t1) := Go.Joins.cell_of_block Q1.out 1
        have b1_2 : u1.cell? ⟨w.heap.size + 1, 2, none⟩ = some (.int .i64 p1) := Go.Joins.cell_of_block Q1.out 2
        have b1_3 : u1.cell? ⟨w.heap.size + 1, 3, none⟩ = some (.int .i64 f1) := Go.Joins.cell_of_block Q1.out 3
        have b1_4 : u1.cell? ⟨w.heap.size + 1, 4, none⟩ = some (.bool x1) := Go.Joins.cell_of_block Q1.out 4
        have b1_5 : u1.cell? ⟨w.heap.size + 1, 5, none⟩ = some (.bool k1) := Go.Joins.cell_of_block Q1.out 5
        have b1_6 : u1.cell? ⟨w.heap.size + 1, 6, none⟩ = some (.bool z1) := Go.Joins.cell_of_block Q1.out 6
        have b1_7 : u1.cell? ⟨w.heap.size + 1, 7, none⟩ = some (.bool false) := Go.Joins.cell_of_block Q1.out 7
        have b1_8 : u1.cell? ⟨w.heap.size + 1, 8, none⟩ = some (.bool d1) := Go.Joins.cell_of_block Q1.out 8
        clear h1 h2 M
        go_wp2_with fail
        refine (FR.out _).mono ?_
        rintro e u2 ⟨rfl, hb⟩
        have B2 : Hid (Below w.heap.size w u2) := below_then M1.out.2.1 hb
        clear hb M1
        go_wp2_with fail
        refine (AW.out _).mono ?_
        rintro e u9 ⟨rfl, hb⟩
        have B9 : Hid (Below w.heap.size w u9) := below_then B2.out hb
        clear hb
        go_wp2_with fail
        go_ret
        exact ⟨rfl, B9.out⟩
    · have FR : Hid (∀ W : World, Calls Try.prog 18 #[.pointer (some ⟨w.heap.size + 1 + 1, 0, none⟩), .int .i64 a2, .agg #[.bool v0, .int .i64 t0, .int .i64 p0, .int .i64 f0, .bool x0, .bool k0, .bool z0, .bool false, .bool d0]] W fun e w' => e = .returned (.int .i64 1) ∧ Below W.heap.size W w') := fun W => by
        by_cases c : a2 < 0 ∨ 2 ≤ a2
        · exact fill_way (w.heap.size + 1 + 1) (⟨v0, t0, p0, f0, x0, k0, z0, false, d0⟩ : Ln) a2 c W
        · have hl : (⟨v0, t0, p0, f0, x0, k0, z0, false, d0⟩ : Ln).ok = false := by
            cases hq : (⟨v0, t0, p0, f0, x0, k0, z0, false, d0⟩ : Ln).ok
            · rfl
            · exact absurd ⟨by omega, by omega, hq⟩ hw
          exact fill_form (w.heap.size + 1 + 1) (⟨v0, t0, p0, f0, x0, k0, z0, false, d0⟩ : Ln) a2 (by omega) (by omega) hl W
      clear hw hs hzz
      go_enter Try.func7, Try.ntmps7
      go_wp2_with fail
      refine (FR.out _).mono ?_
      rintro e u2 ⟨rfl, hb⟩
      have B2 : Hid (Below w.heap.size w u2) := below_then (Go.Joins.below_alloc3 _ _ _ _) hb
      clear hb M
      go_wp2_with fail
      refine (AW.out _).mono ?_
      rintro e u9 ⟨rfl, hb⟩
      have B9 : Hid (Below w.heap.size w u9) := below_then B2.out hb
      clear hb
      go_wp2_with fail
      go_ret
      exact ⟨rfl, B9.out⟩

theorem own : ownKnob Try.prog.godebug = none := by kernel_rfl
theorem laidOut : laidOutB Try.prog = true := by kernel_rfl
set_option maxRecDepth 100000 in
theorem lifted (os : Os) (started : os.Started) (H : Type) (enc : TypeId × Value → H) :
    ReturnsInHanded {} Try.checked os 7 .any (Rows.tlbPlacesSpec.pre6 enc Try.prog Try.f7 Rows.tlbPlacesRow.domain false) (Rows.tlbPlacesSpec.post enc Try.prog Try.f7 false true false false) := by
  refine returnsInHanded_of_change (C := Try.checked) own started (by kernel_rfl) Try.func7
    (ChangeSpec.witness6 (enc := enc) (C := Try.checked) false ⟨#[], #[.agg #[.bool false, .int .i64 0, .int .i64 0, .int .i64 0, .bool false, .bool false, .bool false, .bool false, .bool false], .agg #[.bool false, .int .i64 0, .int .i64 0, .int .i64 0, .bool false, .bool false, .bool false, .bool false, .bool false], .int .i64 0, .int .i64 0], []⟩ 8 (by kernel_rfl) (by kernel_rfl) (by kernel_rfl) (by kernel_rfl)) ?_
  intro W base args ds gs before hval0 hW hcnd _
  have hval : ∀ (j : Nat) t v, Try.f7.params[j]? = some t → args[j]? = some v → Value.okWide Try.prog W .any base t v := hval0
  have hW' := hW
  obtain ⟨p, q, hA0, hV, hbef, hfz, hnd⟩ := hW
  have hA : DataW.TrodAll enc Try.prog W 0 (fun _ => true) true Try.f7.params.toList args.toList ds p := hA0
  have hAk := hA
  have hlt : ∀ x ∈ p, x.block < W.heap.size := fun x hx => hW'.lt x (by rw [hbef]; exact List.mem_append_left _ hx)
  rw [Try.params7] at hA hval
  obtain ⟨v0, vs0, d0, ds0, p0, q0, hargs, rfl, hp0, h0, r0⟩ := trodAll_cons hA
  obtain ⟨v1, vs1, d1, ds1, p1, q1, rfl, rfl, hp1, h1, r1⟩ := trodAll_cons r0
  obtain ⟨v2, vs2, d2, ds2, p2, q2, rfl, rfl, hp2, h2, r2⟩ := trodAll_cons r1
  obtain ⟨v3, vs3, d3, ds3, p3, q3, rfl, rfl, hp3, h3, r3⟩ := trodAll_cons r2
  obtain ⟨rfl, rfl, hpz⟩ := trodAll_nil r3
  obtain rfl : args = #[v0, v1, v2, v3] := by cases args; simp_all
  obtain ⟨rfl, rfl⟩ := trodVars_none hV
  obtain ⟨l0, rfl, w0t, w0p, w0f⟩ := open_line (hval 0 26 v0 rfl rfl) h0
  obtain ⟨l1, rfl, w1t, w1p, w1f⟩ := open_line (hval 1 26 v1 rfl rfl) h1
  obtain ⟨a2, rfl, _, _, w2⟩ := open_int Try.underlying3 (hval 2 3 v2 rfl rfl) h2
  obtain ⟨a3, rfl, _, _, w3⟩ := open_int Try.underlying3 (hval 3 3 v3 rfl rfl) h3
  clear hA0 hval0
  refine (walk l0 w0t w0p w0f l1 w1t w1p w1f a2 w2 a3 w3 W).mono fun e W' ⟨he, hg⟩ => ?_
  subst he
  exact ⟨_, rfl, ⟨_, _, _, [], p, [], hW', (trodAll_cons_mk (shut_bool Try.underlying4 _) trodAll_mk0), args_stay laidOut hg (by kernel_rfl) hAk hlt, rfl, hg.frame _, fun h => by cases h⟩⟩

theorem over : Rows.tlbPlacesRow.holds Try.pinned (OpenSpec.ofChange Rows.tlbPlacesSpec) :=
  OpenClaim.holds_of_wide 7 Try.f7 rfl rfl rfl rfl rfl rfl rfl ⟨rfl, rfl, rfl, rfl, rfl⟩ rfl rfl rfl rfl rfl (by kernel_rfl) Try.func7 (by kernel_rfl)
    (of_decide_eq_true (by kernel_rfl)) (by unfold Func.isWrapper; first | (rw [if_pos (by decide +kernel)]; kernel_rfl) | (rw [if_neg (by decide +kernel)]; exact ⟨rfl, rfl⟩))
    (fun os started H enc _ => lifted os started H enc)

theorem proved : Rows.TlbPlacesSaid :=
  over
#print axioms proved
end Go.Proofs.Ytdckjoimgddcbaa.tlbPlaces
