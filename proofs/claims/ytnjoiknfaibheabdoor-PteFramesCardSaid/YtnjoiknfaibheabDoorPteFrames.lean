/- For any entry and frame: unlike frames make unlike numbers, and touch no flag; the table of the flags' bits as the program lays it. -/
import Derived.Test.YtnjoiknfaibheabDoorRows
import Derived.Test.YtnjoiknfaibheabDoorCards
import Derived.Test.YtnjoiknfaibheabDoorTie
import Derived.ProofKit
import Derived.OpenShut
import Derived.Stop.Joined
import Derived.SevenTiedAt
import Derived.Test.YtnjoiknfaibheabDoorP6
namespace Go.Proofs.YtnjoiknfaibheabDoor.pteFrames
open Go.ChangeShapes Go.WideShapes Go.ChangeAt Go.RowKit
set_option linter.unusedSimpArgs false
set_option linter.unusedVariables false
theorem frozen_keep {B b i : Nat} {w w' : World} (h : Below B w w') (hb : b < B) : w'.frozen? ⟨b, i, none⟩ = w.frozen? ⟨b, i, none⟩ := by
  have e : w'.heap[b]? = w.heap[b]? := h.block b hb
  simp [World.frozen?, e]
theorem mask_rest (x : Nat) : x &&& (18446744073709551615 - 4294963200) = (x % 4096) ||| (x / 4294967296 % 4294967296 * 4294967296) := by
  have e : 18446744073709551615 - 4294963200 = (2 ^ 12 - 1) * 2 ^ 0 ||| (2 ^ 32 - 1) * 2 ^ 32 := by decide
  rw [e, Nat.and_or_distrib_left, nat_mask, nat_mask]
  simp only [Nat.reducePow, Nat.pow_zero, Nat.div_one, Nat.mul_one]
theorem xor_rest (V W : Int) (v0 : 0 ≤ V) (v1 : V < 18446744073709551616) (w0 : 0 ≤ W) (w1 : W < 18446744073709551616) (h1 : V % 4096 = W % 4096) (h2 : V / 4294967296 = W / 4294967296) : bits .andNot .u64 (bits .xor .u64 V W) 4294963200 = 0 := by
  have hx : V.toNat ^^^ W.toNat < 2 ^ 64 := Nat.xor_lt_two_pow (by omega) (by omega)
  rw [u64_xor _ _ v0 v1 w0 w1, u64_andNot _ _ (by omega) (by omega) (by omega) (by omega), Int.toNat_natCast, show (4294963200 : Int).toNat = 4294963200 from rfl, Nat.and_xor_distrib_right, mask_rest, mask_rest]
  have e1 : V.toNat % 4096 = W.toNat % 4096 := by omega
  have e2 : V.toNat / 4294967296 = W.toNat / 4294967296 := by omega
  rw [e1, e2, Nat.xor_self]; rfl
theorem low_part (p q u a d l g n : Bool) (f : Int) (f0 : 0 ≤ f) (f1 : f < 1048576) : ∃ r t : Int, (∀ f, packV p q u a d l g n f = f * 4096 + r + t * 9223372036854775808) ∧ 0 ≤ r ∧ r < 4096 ∧ 0 ≤ t ∧ t ≤ 1 := by
  have h0 := fl_bd p 1 (by omega)
  have h1 := fl_bd q 2 (by omega)
  have h2 := fl_bd u 4 (by omega)
  have h3 := fl_bd a 32 (by omega)
  have h4 := fl_bd d 64 (by omega)
  have h5 := fl_bd l 128 (by omega)
  have h6 := fl_bd g 256 (by omega)
  have h7 := fl_bd n 1 (by omega)
  refine ⟨fl p 1 + fl q 2 + fl u 4 + fl a 32 + fl d 64 + fl l 128 + fl g 256, fl n 1, fun f => ?_, by omega, by omega, by omega, by omega⟩
  unfold packV
  rw [fl_mul n 9223372036854775808]
  omega

set_option maxHeartbeats 2000000 in
theorem walk (a0p a0q a0u a0a a0d a0l a0g a0n : Bool) (a0f : Int) (w0 : (Lit.int .i64 a0f).wf = true) (a1 : Int) (w1 : (Lit.int .i64 a1).wf = true) (w : World) (ht : Tab w) :
    Calls Tryd.prog 5 #[.agg #[.bool a0p, .bool a0q, .bool a0u, .bool a0a, .bool a0d, .bool a0l, .bool a0g, .bool a0n, .int .i64 a0f], .int .i64 a1] w fun e w' => e = .returned (.bool true) ∧ Below w.heap.size w w' := by
  have A := awake_c
  have T : Hid (Tab w) := ht
  clear ht w0 w1
  by_cases c : 0 ≤ a0f ∧ a0f < 1048576 <;> by_cases d : 0 ≤ a1 ∧ a1 < 1048576
  · obtain ⟨V, hV⟩ : ∃ V, packV a0p a0q a0u a0a a0d a0l a0g a0n a0f = V := ⟨_, rfl⟩
    obtain ⟨W, hW⟩ : ∃ W, packV a0p a0q a0u a0a a0d a0l a0g a0n a1 = W := ⟨_, rfl⟩
    have bV := packV_bd a0p a0q a0u a0a a0d a0l a0g a0n a0f c.1 c.2
    have bW := packV_bd a0p a0q a0u a0a a0d a0l a0g a0n a1 d.1 d.2
    obtain ⟨r, t, hl, r0, r1, t0, t1⟩ := low_part a0p a0q a0u a0a a0d a0l a0g a0n a0f c.1 c.2
    have lV := hl a0f
    have lW := hl a1
    rw [hV] at bV lV
    rw [hW] at bW lW
    clear hl
    have hx := xor_rest V W bV.1 bV.2 bW.1 bW.2 (by omega) (by omega)
    have P1 : Hid (∀ w : World, Tab w → Calls Tryd.prog 8 #[.agg #[.bool a0p, .bool a0q, .bool a0u, .bool a0a, .bool a0d, .bool a0l, .bool a0g, .bool a0n, .int .i64 a0f]] w fun e w' => e = .returned (.tuple #[.int .u64 V, .int .i64 0]) ∧ Below w.heap.size w w') := fun w ht => by rw [← hV]; exact pack_ok a0p a0q a0u a0a a0d a0l a0g a0n a0f c.1 c.2 w ht
    have P2 : Hid (∀ w : World, Tab w → Calls Tryd.prog 8 #[.agg #[.bool a0p, .bool a0q, .bool a0u, .bool a0a, .bool a0d, .bool a0l, .bool a0g, .bool a0n, .int .i64 a1]] w fun e w' => e = .returned (.tuple #[.int .u64 W, .int .i64 0]) ∧ Below w.heap.size w w') := fun w ht => by rw [← hW]; exact pack_ok a0p a0q a0u a0a a0d a0l a0g a0n a1 d.1 d.2 w ht
    have D : ((V == W) = true ∧ (a1 == a0f) = true) ∨ ((V == W) = false ∧ (a1 == a0f) = false) := by
      by_cases e : a1 = a0f
      · exact Or.inl ⟨beq_iff_eq.2 (by rw [lV, lW, e]), beq_iff_eq.2 e⟩
      · exact Or.inr ⟨beq_eq_false_iff_ne.2 (by omega), beq_eq_false_iff_ne.2 e⟩
    clear hV hW bV bW lV lW r0 r1 t0 t1 c
    obtain ⟨d0, d1⟩ := d
    rcases D with ⟨q1, q2⟩ | ⟨q1, q2⟩
    · skip
      go_enter Tryd.func5, Tryd.ntmps5
      go_wp2_with fail
      refine (P1.out _ (T.out.keep (by first | exact Below.refl _ _ | exact below_new (Below.refl _ _) _ | exact below_new2 (Below.refl _ _) _ _ | exact below_new (below_new2 (Below.refl _ _) _ _) _))).mono ?_
      rintro e w1 ⟨rfl, h1⟩
      have ze1 : w.heap.size < w1.heap.size := Nat.lt_of_lt_of_le (by first | (simp; done) | (simp; omega)) h1.size
      have ce1_0 : w1.cell? ⟨w.heap.size, 0, none⟩ = some (.bool a0p) := cell_next h1 (by first | (simp; done) | (simp; omega)) (by first | (simp; done))
      have ce1_1 : w1.cell? ⟨w.heap.size, 1, none⟩ = some (.bool a0q) := cell_next h1 (by first | (simp; done) | (simp; omega)) (by first | (simp; done))
      have ce1_2 : w1.cell? ⟨w.heap.size, 2, none⟩ = some (.bool a0u) := cell_next h1 (by first | (simp; done) | (simp; omega)) (by first | (simp; done))
      have ce1_3 : w1.cell? ⟨w.heap.size, 3, none⟩ = some (.bool a0a) := cell_next h1 (by first | (simp; done) | (simp; omega)) (by first | (simp; done))
      have ce1_4 : w1.cell? ⟨w.heap.size, 4, none⟩ = some (.bool a0d) := cell_next h1 (by first | (simp; done) | (simp; omega)) (by first | (simp; done))
      have ce1_5 : w1.cell? ⟨w.heap.size, 5, none⟩ = some (.bool a0l) := cell_next h1 (by first | (simp; done) | (simp; omega)) (by first | (simp; done))
      have ce1_6 : w1.cell? ⟨w.heap.size, 6, none⟩ = some (.bool a0g) := cell_next h1 (by first | (simp; done) | (simp; omega)) (by first | (simp; done))
      have ce1_7 : w1.cell? ⟨w.heap.size, 7, none⟩ = some (.bool a0n) := cell_next h1 (by first | (simp; done) | (simp; omega)) (by first | (simp; done))
      have ce1_8 : w1.cell? ⟨w.heap.size, 8, none⟩ = some (.int .i64 a0f) := cell_next h1 (by first | (simp; done) | (simp; omega)) (by first | (simp; done))
      have B1 : Hid (Below w.heap.size w w1) := below_then (by first | exact Below.refl _ _ | exact below_new (Below.refl _ _) _ | exact below_new2 (Below.refl _ _) _ _ | exact below_new (below_new2 (Below.refl _ _) _ _) _) h1
      have fz : w1.frozen? ⟨w.heap.size, 8, none⟩ = false := (frozen_keep h1 (by simp)).trans (by simp)
      clear h1
      have B2 : Hid (Below w.heap.size w (w1.setCell ⟨w.heap.size, 8, none⟩ (.int .i64 a1))) := B1.out.setCell (Nat.le_refl _) _
      go_wp2_with fail
      refine (P2.out _ (T.out.keep (by first | exact B2.out | exact below_new (B2.out) _ | exact below_new2 (B2.out) _ _ | exact below_new (below_new2 (B2.out) _ _) _))).mono ?_
      rintro e w4 ⟨rfl, h4⟩
      have B4 : Hid (Below w.heap.size w w4) := below_then (by first | exact B2.out | exact below_new (B2.out) _ | exact below_new2 (B2.out) _ _ | exact below_new (below_new2 (B2.out) _ _) _) h4
      clear h4
      go_wp2_with fail
      refine (A.out _ (T.out.keep (by first | exact B4.out | exact below_new (B4.out) _ | exact below_new2 (B4.out) _ _ | exact below_new (below_new2 (B4.out) _ _) _))).mono ?_
      rintro e w5 ⟨rfl, h5⟩
      have B5 : Hid (Below w.heap.size w w5) := below_then (by first | exact B4.out | exact below_new (B4.out) _ | exact below_new2 (B4.out) _ _ | exact below_new (below_new2 (B4.out) _ _) _) h5
      clear h5
      go_wp2_with fail
      go_ret
      exact ⟨by first | rfl | (simp; done) | (simp; omega), by first | exact B5.out | exact below_new (B5.out) _ | exact below_new2 (B5.out) _ _ | exact below_new (below_new2 (B5.out) _ _) _⟩
    · skip
      go_enter Tryd.func5, Tryd.ntmps5
      go_wp2_with fail
      refine (P1.out _ (T.out.keep (by first | exact Below.refl _ _ | exact below_new (Below.refl _ _) _ | exact below_new2 (Below.refl _ _) _ _ | exact below_new (below_new2 (Below.refl _ _) _ _) _))).mono ?_
      rintro e w1 ⟨rfl, h1⟩
      have ze1 : w.heap.size < w1.heap.size := Nat.lt_of_lt_of_le (by first | (simp; done) | (simp; omega)) h1.size
      have ce1_0 : w1.cell? ⟨w.heap.size, 0, none⟩ = some (.bool a0p) := cell_next h1 (by first | (simp; done) | (simp; omega)) (by first | (simp; done))
      have ce1_1 : w1.cell? ⟨w.heap.size, 1, none⟩ = some (.bool a0q) := cell_next h1 (by first | (simp; done) | (simp; omega)) (by first | (simp; done))
      have ce1_2 : w1.cell? ⟨w.heap.size, 2, none⟩ = some (.bool a0u) := cell_next h1 (by first | (simp; done) | (simp; omega)) (by first | (simp; done))
      have ce1_3 : w1.cell? ⟨w.heap.size, 3, none⟩ = some (.bool a0a) := cell_next h1 (by first | (simp; done) | (simp; omega)) (by first | (simp; done))
      have ce1_4 : w1.cell? ⟨w.heap.size, 4, none⟩ = some (.bool a0d) := cell_next h1 (by first | (simp; done) | (simp; omega)) (by first | (simp; done))
      have ce1_5 : w1.cell? ⟨w.heap.size, 5, none⟩ = some (.bool a0l) := cell_next h1 (by first | (simp; done) | (simp; omega)) (by first | (simp; done))
      have ce1_6 : w1.cell? ⟨w.heap.size, 6, none⟩ = some (.bool a0g) := cell_next h1 (by first | (simp; done) | (simp; omega)) (by first | (simp; done))
      have ce1_7 : w1.cell? ⟨w.heap.size, 7, none⟩ = some (.bool a0n) := cell_next h1 (by first | (simp; done) | (simp; omega)) (by first | (simp; done))
      have ce1_8 : w1.cell? ⟨w.heap.size, 8, none⟩ = some (.int .i64 a0f) := cell_next h1 (by first | (simp; done) | (simp; omega)) (by first | (simp; done))
      have B1 : Hid (Below w.heap.size w w1) := below_then (by first | exact Below.refl _ _ | exact below_new (Below.refl _ _) _ | exact below_new2 (Below.refl _ _) _ _ | exact below_new (below_new2 (Below.refl _ _) _ _) _) h1
      have fz : w1.frozen? ⟨w.heap.size, 8, none⟩ = false := (frozen_keep h1 (by simp)).trans (by simp)
      clear h1
      have B2 : Hid (Below w.heap.size w (w1.setCell ⟨w.heap.size, 8, none⟩ (.int .i64 a1))) := B1.out.setCell (Nat.le_refl _) _
      go_wp2_with fail
      refine (P2.out _ (T.out.keep (by first | exact B2.out | exact below_new (B2.out) _ | exact below_new2 (B2.out) _ _ | exact below_new (below_new2 (B2.out) _ _) _))).mono ?_
      rintro e w4 ⟨rfl, h4⟩
      have B4 : Hid (Below w.heap.size w w4) := below_then (by first | exact B2.out | exact below_new (B2.out) _ | exact below_new2 (B2.out) _ _ | exact below_new (below_new2 (B2.out) _ _) _) h4
      clear h4
      go_wp2_with fail
      refine (A.out _ (T.out.keep (by first | exact B4.out | exact below_new (B4.out) _ | exact below_new2 (B4.out) _ _ | exact below_new (below_new2 (B4.out) _ _) _))).mono ?_
      rintro e w5 ⟨rfl, h5⟩
      have B5 : Hid (Below w.heap.size w w5) := below_then (by first | exact B4.out | exact below_new (B4.out) _ | exact below_new2 (B4.out) _ _ | exact below_new (below_new2 (B4.out) _ _) _) h5
      clear h5
      go_wp2_with fail
      go_ret
      exact ⟨by first | rfl | (simp; done) | (simp; omega), by first | exact B5.out | exact below_new (B5.out) _ | exact below_new2 (B5.out) _ _ | exact below_new (below_new2 (B5.out) _ _) _⟩
  · skip
    obtain ⟨V, hV⟩ : ∃ V, packV a0p a0q a0u a0a a0d a0l a0g a0n a0f = V := ⟨_, rfl⟩
    have P1 : Hid (∀ w : World, Tab w → Calls Tryd.prog 8 #[.agg #[.bool a0p, .bool a0q, .bool a0u, .bool a0a, .bool a0d, .bool a0l, .bool a0g, .bool a0n, .int .i64 a0f]] w fun e w' => e = .returned (.tuple #[.int .u64 V, .int .i64 0]) ∧ Below w.heap.size w w') := fun w ht => by rw [← hV]; exact pack_ok a0p a0q a0u a0a a0d a0l a0g a0n a0f c.1 c.2 w ht
    have P2 : Hid (∀ w : World, Tab w → Calls Tryd.prog 8 #[.agg #[.bool a0p, .bool a0q, .bool a0u, .bool a0a, .bool a0d, .bool a0l, .bool a0g, .bool a0n, .int .i64 a1]] w fun e w' => e = .returned (.tuple #[.int .u64 0, .int .i64 1]) ∧ Below w.heap.size w w') := fun w ht => pack_bad a0p a0q a0u a0a a0d a0l a0g a0n a1 d w
    clear hV c
    by_cases d0 : a1 < 0
    · clear d
      go_enter Tryd.func5, Tryd.ntmps5
      go_wp2_with fail
      refine (P1.out _ (T.out.keep (by first | exact Below.refl _ _ | exact below_new (Below.refl _ _) _ | exact below_new2 (Below.refl _ _) _ _ | exact below_new (below_new2 (Below.refl _ _) _ _) _))).mono ?_
      rintro e w1 ⟨rfl, h1⟩
      have ze1 : w.heap.size < w1.heap.size := Nat.lt_of_lt_of_le (by first | (simp; done) | (simp; omega)) h1.size
      have ce1_0 : w1.cell? ⟨w.heap.size, 0, none⟩ = some (.bool a0p) := cell_next h1 (by first | (simp; done) | (simp; omega)) (by first | (simp; done))
      have ce1_1 : w1.cell? ⟨w.heap.size, 1, none⟩ = some (.bool a0q) := cell_next h1 (by first | (simp; done) | (simp; omega)) (by first | (simp; done))
      have ce1_2 : w1.cell? ⟨w.heap.size, 2, none⟩ = some (.bool a0u) := cell_next h1 (by first | (simp; done) | (simp; omega)) (by first | (simp; done))
      have ce1_3 : w1.cell? ⟨w.heap.size, 3, none⟩ = some (.bool a0a) := cell_next h1 (by first | (simp; done) | (simp; omega)) (by first | (simp; done))
      have ce1_4 : w1.cell? ⟨w.heap.size, 4, none⟩ = some (.bool a0d) := cell_next h1 (by first | (simp; done) | (simp; omega)) (by first | (simp; done))
      have ce1_5 : w1.cell? ⟨w.heap.size, 5, none⟩ = some (.bool a0l) := cell_next h1 (by first | (simp; done) | (simp; omega)) (by first | (simp; done))
      have ce1_6 : w1.cell? ⟨w.heap.size, 6, none⟩ = some (.bool a0g) := cell_next h1 (by first | (simp; done) | (simp; omega)) (by first | (simp; done))
      have ce1_7 : w1.cell? ⟨w.heap.size, 7, none⟩ = some (.bool a0n) := cell_next h1 (by first | (simp; done) | (simp; omega)) (by first | (simp; done))
      have ce1_8 : w1.cell? ⟨w.heap.size, 8, none⟩ = some (.int .i64 a0f) := cell_next h1 (by first | (simp; done) | (simp; omega)) (by first | (simp; done))
      have B1 : Hid (Below w.heap.size w w1) := below_then (by first | exact Below.refl _ _ | exact below_new (Below.refl _ _) _ | exact below_new2 (Below.refl _ _) _ _ | exact below_new (below_new2 (Below.refl _ _) _ _) _) h1
      have fz : w1.frozen? ⟨w.heap.size, 8, none⟩ = false := (frozen_keep h1 (by simp)).trans (by simp)
      clear h1
      have B2 : Hid (Below w.heap.size w (w1.setCell ⟨w.heap.size, 8, none⟩ (.int .i64 a1))) := B1.out.setCell (Nat.le_refl _) _
      go_wp2_with fail
      refine (P2.out _ (T.out.keep (by first | exact B2.out | exact below_new (B2.out) _ | exact below_new2 (B2.out) _ _ | exact below_new (below_new2 (B2.out) _ _) _))).mono ?_
      rintro e w4 ⟨rfl, h4⟩
      have B4 : Hid (Below w.heap.size w w4) := below_then (by first | exact B2.out | exact below_new (B2.out) _ | exact below_new2 (B2.out) _ _ | exact below_new (below_new2 (B2.out) _ _) _) h4
      clear h4
      go_wp2_with fail
      refine (A.out _ (T.out.keep (by first | exact B4.out | exact below_new (B4.out) _ | exact below_new2 (B4.out) _ _ | exact below_new (below_new2 (B4.out) _ _) _))).mono ?_
      rintro e w5 ⟨rfl, h5⟩
      have B5 : Hid (Below w.heap.size w w5) := below_then (by first | exact B4.out | exact below_new (B4.out) _ | exact below_new2 (B4.out) _ _ | exact below_new (below_new2 (B4.out) _ _) _) h5
      clear h5
      go_wp2_with fail
      go_ret
      exact ⟨by first | rfl | (simp; done) | (simp; omega), by first | exact B5.out | exact below_new (B5.out) _ | exact below_new2 (B5.out) _ _ | exact below_new (below_new2 (B5.out) _ _) _⟩
    · have d1 : 1048576 ≤ a1 := by omega
      clear d
      have d0 : 0 ≤ a1 := by omega
      go_enter Tryd.func5, Tryd.ntmps5
      go_wp2_with fail
      refine (P1.out _ (T.out.keep (by first | exact Below.refl _ _ | exact below_new (Below.refl _ _) _ | exact below_new2 (Below.refl _ _) _ _ | exact below_new (below_new2 (Below.refl _ _) _ _) _))).mono ?_
      rintro e w1 ⟨rfl, h1⟩
      have ze1 : w.heap.size < w1.heap.size := Nat.lt_of_lt_of_le (by first | (simp; done) | (simp; omega)) h1.size
      have ce1_0 : w1.cell? ⟨w.heap.size, 0, none⟩ = some (.bool a0p) := cell_next h1 (by first | (simp; done) | (simp; omega)) (by first | (simp; done))
      have ce1_1 : w1.cell? ⟨w.heap.size, 1, none⟩ = some (.bool a0q) := cell_next h1 (by first | (simp; done) | (simp; omega)) (by first | (simp; done))
      have ce1_2 : w1.cell? ⟨w.heap.size, 2, none⟩ = some (.bool a0u) := cell_next h1 (by first | (simp; done) | (simp; omega)) (by first | (simp; done))
      have ce1_3 : w1.cell? ⟨w.heap.size, 3, none⟩ = some (.bool a0a) := cell_next h1 (by first | (simp; done) | (simp; omega)) (by first | (simp; done))
      have ce1_4 : w1.cell? ⟨w.heap.size, 4, none⟩ = some (.bool a0d) := cell_next h1 (by first | (simp; done) | (simp; omega)) (by first | (simp; done))
      have ce1_5 : w1.cell? ⟨w.heap.size, 5, none⟩ = some (.bool a0l) := cell_next h1 (by first | (simp; done) | (simp; omega)) (by first | (simp; done))
      have ce1_6 : w1.cell? ⟨w.heap.size, 6, none⟩ = some (.bool a0g) := cell_next h1 (by first | (simp; done) | (simp; omega)) (by first | (simp; done))
      have ce1_7 : w1.cell? ⟨w.heap.size, 7, none⟩ = some (.bool a0n) := cell_next h1 (by first | (simp; done) | (simp; omega)) (by first | (simp; done))
      have ce1_8 : w1.cell? ⟨w.heap.size, 8, none⟩ = some (.int .i64 a0f) := cell_next h1 (by first | (simp; done) | (simp; omega)) (by first | (simp; done))
      have B1 : Hid (Below w.heap.size w w1) := below_then (by first | exact Below.refl _ _ | exact below_new (Below.refl _ _) _ | exact below_new2 (Below.refl _ _) _ _ | exact below_new (below_new2 (Below.refl _ _) _ _) _) h1
      have fz : w1.frozen? ⟨w.heap.size, 8, none⟩ = false := (frozen_keep h1 (by simp)).trans (by simp)
      clear h1
      have B2 : Hid (Below w.heap.size w (w1.setCell ⟨w.heap.size, 8, none⟩ (.int .i64 a1))) := B1.out.setCell (Nat.le_refl _) _
      go_wp2_with fail
      refine (P2.out _ (T.out.keep (by first | exact B2.out | exact below_new (B2.out) _ | exact below_new2 (B2.out) _ _ | exact below_new (below_new2 (B2.out) _ _) _))).mono ?_
      rintro e w4 ⟨rfl, h4⟩
      have B4 : Hid (Below w.heap.size w w4) := below_then (by first | exact B2.out | exact below_new (B2.out) _ | exact below_new2 (B2.out) _ _ | exact below_new (below_new2 (B2.out) _ _) _) h4
      clear h4
      go_wp2_with fail
      refine (A.out _ (T.out.keep (by first | exact B4.out | exact below_new (B4.out) _ | exact below_new2 (B4.out) _ _ | exact below_new (below_new2 (B4.out) _ _) _))).mono ?_
      rintro e w5 ⟨rfl, h5⟩
      have B5 : Hid (Below w.heap.size w w5) := below_then (by first | exact B4.out | exact below_new (B4.out) _ | exact below_new2 (B4.out) _ _ | exact below_new (below_new2 (B4.out) _ _) _) h5
      clear h5
      go_wp2_with fail
      go_ret
      exact ⟨by first | rfl | (simp; done) | (simp; omega), by first | exact B5.out | exact below_new (B5.out) _ | exact below_new2 (B5.out) _ _ | exact below_new (below_new2 (B5.out) _ _) _⟩
  · skip
    obtain ⟨W, hW⟩ : ∃ W, packV a0p a0q a0u a0a a0d a0l a0g a0n a1 = W := ⟨_, rfl⟩
    have P1 : Hid (∀ w : World, Tab w → Calls Tryd.prog 8 #[.agg #[.bool a0p, .bool a0q, .bool a0u, .bool a0a, .bool a0d, .bool a0l, .bool a0g, .bool a0n, .int .i64 a0f]] w fun e w' => e = .returned (.tuple #[.int .u64 0, .int .i64 1]) ∧ Below w.heap.size w w') := fun w ht => pack_bad a0p a0q a0u a0a a0d a0l a0g a0n a0f c w
    have P2 : Hid (∀ w : World, Tab w → Calls Tryd.prog 8 #[.agg #[.bool a0p, .bool a0q, .bool a0u, .bool a0a, .bool a0d, .bool a0l, .bool a0g, .bool a0n, .int .i64 a1]] w fun e w' => e = .returned (.tuple #[.int .u64 W, .int .i64 0]) ∧ Below w.heap.size w w') := fun w ht => by rw [← hW]; exact pack_ok a0p a0q a0u a0a a0d a0l a0g a0n a1 d.1 d.2 w ht
    clear hW c
    obtain ⟨d0, d1⟩ := d
    go_enter Tryd.func5, Tryd.ntmps5
    go_wp2_with fail
    refine (P1.out _ (T.out.keep (by first | exact Below.refl _ _ | exact below_new (Below.refl _ _) _ | exact below_new2 (Below.refl _ _) _ _ | exact below_new (below_new2 (Below.refl _ _) _ _) _))).mono ?_
    rintro e w1 ⟨rfl, h1⟩
    have ze1 : w.heap.size < w1.heap.size := Nat.lt_of_lt_of_le (by first | (simp; done) | (simp; omega)) h1.size
    have ce1_0 : w1.cell? ⟨w.heap.size, 0, none⟩ = some (.bool a0p) := cell_next h1 (by first | (simp; done) | (simp; omega)) (by first | (simp; done))
    have ce1_1 : w1.cell? ⟨w.heap.size, 1, none⟩ = some (.bool a0q) := cell_next h1 (by first | (simp; done) | (simp; omega)) (by first | (simp; done))
    have ce1_2 : w1.cell? ⟨w.heap.size, 2, none⟩ = some (.bool a0u) := cell_next h1 (by first | (simp; done) | (simp; omega)) (by first | (simp; done))
    have ce1_3 : w1.cell? ⟨w.heap.size, 3, none⟩ = some (.bool a0a) := cell_next h1 (by first | (simp; done) | (simp; omega)) (by first | (simp; done))
    have ce1_4 : w1.cell? ⟨w.heap.size, 4, none⟩ = some (.bool a0d) := cell_next h1 (by first | (simp; done) | (simp; omega)) (by first | (simp; done))
    have ce1_5 : w1.cell? ⟨w.heap.size, 5, none⟩ = some (.bool a0l) := cell_next h1 (by first | (simp; done) | (simp; omega)) (by first | (simp; done))
    have ce1_6 : w1.cell? ⟨w.heap.size, 6, none⟩ = some (.bool a0g) := cell_next h1 (by first | (simp; done) | (simp; omega)) (by first | (simp; done))
    have ce1_7 : w1.cell? ⟨w.heap.size, 7, none⟩ = some (.bool a0n) := cell_next h1 (by first | (simp; done) | (simp; omega)) (by first | (simp; done))
    have ce1_8 : w1.cell? ⟨w.heap.size, 8, none⟩ = some (.int .i64 a0f) := cell_next h1 (by first | (simp; done) | (simp; omega)) (by first | (simp; done))
    have B1 : Hid (Below w.heap.size w w1) := below_then (by first | exact Below.refl _ _ | exact below_new (Below.refl _ _) _ | exact below_new2 (Below.refl _ _) _ _ | exact below_new (below_new2 (Below.refl _ _) _ _) _) h1
    have fz : w1.frozen? ⟨w.heap.size, 8, none⟩ = false := (frozen_keep h1 (by simp)).trans (by simp)
    clear h1
    have B2 : Hid (Below w.heap.size w (w1.setCell ⟨w.heap.size, 8, none⟩ (.int .i64 a1))) := B1.out.setCell (Nat.le_refl _) _
    go_wp2_with fail
    refine (P2.out _ (T.out.keep (by first | exact B2.out | exact below_new (B2.out) _ | exact below_new2 (B2.out) _ _ | exact below_new (below_new2 (B2.out) _ _) _))).mono ?_
    rintro e w4 ⟨rfl, h4⟩
    have B4 : Hid (Below w.heap.size w w4) := below_then (by first | exact B2.out | exact below_new (B2.out) _ | exact below_new2 (B2.out) _ _ | exact below_new (below_new2 (B2.out) _ _) _) h4
    clear h4
    go_wp2_with fail
    refine (A.out _ (T.out.keep (by first | exact B4.out | exact below_new (B4.out) _ | exact below_new2 (B4.out) _ _ | exact below_new (below_new2 (B4.out) _ _) _))).mono ?_
    rintro e w5 ⟨rfl, h5⟩
    have B5 : Hid (Below w.heap.size w w5) := below_then (by first | exact B4.out | exact below_new (B4.out) _ | exact below_new2 (B4.out) _ _ | exact below_new (below_new2 (B4.out) _ _) _) h5
    clear h5
    go_wp2_with fail
    go_ret
    exact ⟨by first | rfl | (simp; done) | (simp; omega), by first | exact B5.out | exact below_new (B5.out) _ | exact below_new2 (B5.out) _ _ | exact below_new (below_new2 (B5.out) _ _) _⟩
  · skip
    have P1 : Hid (∀ w : World, Tab w → Calls Tryd.prog 8 #[.agg #[.bool a0p, .bool a0q, .bool a0u, .bool a0a, .bool a0d, .bool a0l, .bool a0g, .bool a0n, .int .i64 a0f]] w fun e w' => e = .returned (.tuple #[.int .u64 0, .int .i64 1]) ∧ Below w.heap.size w w') := fun w ht => pack_bad a0p a0q a0u a0a a0d a0l a0g a0n a0f c w
    have P2 : Hid (∀ w : World, Tab w → Calls Tryd.prog 8 #[.agg #[.bool a0p, .bool a0q, .bool a0u, .bool a0a, .bool a0d, .bool a0l, .bool a0g, .bool a0n, .int .i64 a1]] w fun e w' => e = .returned (.tuple #[.int .u64 0, .int .i64 1]) ∧ Below w.heap.size w w') := fun w ht => pack_bad a0p a0q a0u a0a a0d a0l a0g a0n a1 d w
    clear c
    by_cases d0 : a1 < 0
    · clear d
      go_enter Tryd.func5, Tryd.ntmps5
      go_wp2_with fail
      refine (P1.out _ (T.out.keep (by first | exact Below.refl _ _ | exact below_new (Below.refl _ _) _ | exact below_new2 (Below.refl _ _) _ _ | exact below_new (below_new2 (Below.refl _ _) _ _) _))).mono ?_
      rintro e w1 ⟨rfl, h1⟩
      have ze1 : w.heap.size < w1.heap.size := Nat.lt_of_lt_of_le (by first | (simp; done) | (simp; omega)) h1.size
      have ce1_0 : w1.cell? ⟨w.heap.size, 0, none⟩ = some (.bool a0p) := cell_next h1 (by first | (simp; done) | (simp; omega)) (by first | (simp; done))
      have ce1_1 : w1.cell? ⟨w.heap.size, 1, none⟩ = some (.bool a0q) := cell_next h1 (by first | (simp; done) | (simp; omega)) (by first | (simp; done))
      have ce1_2 : w1.cell? ⟨w.heap.size, 2, none⟩ = some (.bool a0u) := cell_next h1 (by first | (simp; done) | (simp; omega)) (by first | (simp; done))
      have ce1_3 : w1.cell? ⟨w.heap.size, 3, none⟩ = some (.bool a0a) := cell_next h1 (by first | (simp; done) | (simp; omega)) (by first | (simp; done))
      have ce1_4 : w1.cell? ⟨w.heap.size, 4, none⟩ = some (.bool a0d) := cell_next h1 (by first | (simp; done) | (simp; omega)) (by first | (simp; done))
      have ce1_5 : w1.cell? ⟨w.heap.size, 5, none⟩ = some (.bool a0l) := cell_next h1 (by first | (simp; done) | (simp; omega)) (by first | (simp; done))
      have ce1_6 : w1.cell? ⟨w.heap.size, 6, none⟩ = some (.bool a0g) := cell_next h1 (by first | (simp; done) | (simp; omega)) (by first | (simp; done))
      have ce1_7 : w1.cell? ⟨w.heap.size, 7, none⟩ = some (.bool a0n) := cell_next h1 (by first | (simp; done) | (simp; omega)) (by first | (simp; done))
      have ce1_8 : w1.cell? ⟨w.heap.size, 8, none⟩ = some (.int .i64 a0f) := cell_next h1 (by first | (simp; done) | (simp; omega)) (by first | (simp; done))
      have B1 : Hid (Below w.heap.size w w1) := below_then (by first | exact Below.refl _ _ | exact below_new (Below.refl _ _) _ | exact below_new2 (Below.refl _ _) _ _ | exact below_new (below_new2 (Below.refl _ _) _ _) _) h1
      have fz : w1.frozen? ⟨w.heap.size, 8, none⟩ = false := (frozen_keep h1 (by simp)).trans (by simp)
      clear h1
      have B2 : Hid (Below w.heap.size w (w1.setCell ⟨w.heap.size, 8, none⟩ (.int .i64 a1))) := B1.out.setCell (Nat.le_refl _) _
      go_wp2_with fail
      refine (P2.out _ (T.out.keep (by first | exact B2.out | exact below_new (B2.out) _ | exact below_new2 (B2.out) _ _ | exact below_new (below_new2 (B2.out) _ _) _))).mono ?_
      rintro e w4 ⟨rfl, h4⟩
      have B4 : Hid (Below w.heap.size w w4) := below_then (by first | exact B2.out | exact below_new (B2.out) _ | exact below_new2 (B2.out) _ _ | exact below_new (below_new2 (B2.out) _ _) _) h4
      clear h4
      go_wp2_with fail
      refine (A.out _ (T.out.keep (by first | exact B4.out | exact below_new (B4.out) _ | exact below_new2 (B4.out) _ _ | exact below_new (below_new2 (B4.out) _ _) _))).mono ?_
      rintro e w5 ⟨rfl, h5⟩
      have B5 : Hid (Below w.heap.size w w5) := below_then (by first | exact B4.out | exact below_new (B4.out) _ | exact below_new2 (B4.out) _ _ | exact below_new (below_new2 (B4.out) _ _) _) h5
      clear h5
      go_wp2_with fail
      go_ret
      exact ⟨by first | rfl | (simp; done) | (simp; omega), by first | exact B5.out | exact below_new (B5.out) _ | exact below_new2 (B5.out) _ _ | exact below_new (below_new2 (B5.out) _ _) _⟩
    · have d1 : 1048576 ≤ a1 := by omega
      clear d
      have d0 : 0 ≤ a1 := by omega
      go_enter Tryd.func5, Tryd.ntmps5
      go_wp2_with fail
      refine (P1.out _ (T.out.keep (by first | exact Below.refl _ _ | exact below_new (Below.refl _ _) _ | exact below_new2 (Below.refl _ _) _ _ | exact below_new (below_new2 (Below.refl _ _) _ _) _))).mono ?_
      rintro e w1 ⟨rfl, h1⟩
      have ze1 : w.heap.size < w1.heap.size := Nat.lt_of_lt_of_le (by first | (simp; done) | (simp; omega)) h1.size
      have ce1_0 : w1.cell? ⟨w.heap.size, 0, none⟩ = some (.bool a0p) := cell_next h1 (by first | (simp; done) | (simp; omega)) (by first | (simp; done))
      have ce1_1 : w1.cell? ⟨w.heap.size, 1, none⟩ = some (.bool a0q) := cell_next h1 (by first | (simp; done) | (simp; omega)) (by first | (simp; done))
      have ce1_2 : w1.cell? ⟨w.heap.size, 2, none⟩ = some (.bool a0u) := cell_next h1 (by first | (simp; done) | (simp; omega)) (by first | (simp; done))
      have ce1_3 : w1.cell? ⟨w.heap.size, 3, none⟩ = some (.bool a0a) := cell_next h1 (by first | (simp; done) | (simp; omega)) (by first | (simp; done))
      have ce1_4 : w1.cell? ⟨w.heap.size, 4, none⟩ = some (.bool a0d) := cell_next h1 (by first | (simp; done) | (simp; omega)) (by first | (simp; done))
      have ce1_5 : w1.cell? ⟨w.heap.size, 5, none⟩ = some (.bool a0l) := cell_next h1 (by first | (simp; done) | (simp; omega)) (by first | (simp; done))
      have ce1_6 : w1.cell? ⟨w.heap.size, 6, none⟩ = some (.bool a0g) := cell_next h1 (by first | (simp; done) | (simp; omega)) (by first | (simp; done))
      have ce1_7 : w1.cell? ⟨w.heap.size, 7, none⟩ = some (.bool a0n) := cell_next h1 (by first | (simp; done) | (simp; omega)) (by first | (simp; done))
      have ce1_8 : w1.cell? ⟨w.heap.size, 8, none⟩ = some (.int .i64 a0f) := cell_next h1 (by first | (simp; done) | (simp; omega)) (by first | (simp; done))
      have B1 : Hid (Below w.heap.size w w1) := below_then (by first | exact Below.refl _ _ | exact below_new (Below.refl _ _) _ | exact below_new2 (Below.refl _ _) _ _ | exact below_new (below_new2 (Below.refl _ _) _ _) _) h1
      have fz : w1.frozen? ⟨w.heap.size, 8, none⟩ = false := (frozen_keep h1 (by simp)).trans (by simp)
      clear h1
      have B2 : Hid (Below w.heap.size w (w1.setCell ⟨w.heap.size, 8, none⟩ (.int .i64 a1))) := B1.out.setCell (Nat.le_refl _) _
      go_wp2_with fail
      refine (P2.out _ (T.out.keep (by first | exact B2.out | exact below_new (B2.out) _ | exact below_new2 (B2.out) _ _ | exact below_new (below_new2 (B2.out) _ _) _))).mono ?_
      rintro e w4 ⟨rfl, h4⟩
      have B4 : Hid (Below w.heap.size w w4) := below_then (by first | exact B2.out | exact below_new (B2.out) _ | exact below_new2 (B2.out) _ _ | exact below_new (below_new2 (B2.out) _ _) _) h4
      clear h4
      go_wp2_with fail
      refine (A.out _ (T.out.keep (by first | exact B4.out | exact below_new (B4.out) _ | exact below_new2 (B4.out) _ _ | exact below_new (below_new2 (B4.out) _ _) _))).mono ?_
      rintro e w5 ⟨rfl, h5⟩
      have B5 : Hid (Below w.heap.size w w5) := below_then (by first | exact B4.out | exact below_new (B4.out) _ | exact below_new2 (B4.out) _ _ | exact below_new (below_new2 (B4.out) _ _) _) h5
      clear h5
      go_wp2_with fail
      go_ret
      exact ⟨by first | rfl | (simp; done) | (simp; omega), by first | exact B5.out | exact below_new (B5.out) _ | exact below_new2 (B5.out) _ _ | exact below_new (below_new2 (B5.out) _ _) _⟩

set_option maxRecDepth 100000 in
theorem lifted (os : Os) (started : os.Started) (H : Type) (enc : TypeId × Value → H) :
    ReturnsInHanded {} Tryd.checked os 5 .any (fun w args => (Rows.pteFramesSpec.pre enc Tryd.prog Tryd.f5 [] false w args ∧ laidMetH Tryd.prog laidL w) ∧ sizedMet enc Tryd.prog Tryd.f5 (OpenSpec.ofChange Rows.pteFramesSpec) false w args)
      (Rows.pteFramesSpec.post enc Tryd.prog Tryd.f5 false true false false) := by
  refine returnsInHanded_of_change_and (C := Tryd.checked) (X := fun w _ => laidMetH Tryd.prog laidL w) (fun _ _ _ hh h => h.of_heap hh) own started (by kernel_rfl) Tryd.func5
    (ChangeSpec.witness_shaped (enc := enc) (C := Tryd.checked) (os := os) (X := fun w _ => laidMetH Tryd.prog laidL w) false (World.doorLaid Tryd.prog 400 os) #[.agg #[.bool false, .bool false, .bool false, .bool false, .bool false, .bool false, .bool false, .bool false, .int .i64 0], .int .i64 0] 8 rfl (World.shaped_of_RefB (by kernel_rfl) (by kernel_rfl)) (by kernel_rfl) (by kernel_rfl) (by kernel_rfl) (door_met os _)) ?_
  intro W base args ds gs before hval0 hW _ _ hL _
  have hval : ∀ (j : Nat) t v, Tryd.f5.params[j]? = some t → args[j]? = some v → Value.okWide Tryd.prog W .any base t v := hval0
  have hW' := hW
  obtain ⟨p, q, hA0, hV, hbef, hfz, hnd⟩ := hW
  have hA : DataW.TrodAll enc Tryd.prog W 0 (fun _ => true) true Tryd.f5.params.toList args.toList ds p := hA0
  have hAk := hA
  have hlt : ∀ x ∈ p, x.block < W.heap.size := fun x hx => hW'.lt x (by rw [hbef]; exact List.mem_append_left _ hx)
  rw [Tryd.params5] at hA hval
  obtain ⟨v0, vs0, d0, ds0, p0, q0, hargs, rfl, hp0, h0, r0⟩ := trodAll_cons hA
  obtain ⟨v1, vs1, d1, ds1, p1, q1, rfl, rfl, hp1, h1, r1⟩ := trodAll_cons r0
  obtain ⟨rfl, rfl, hpz⟩ := trodAll_nil r1
  obtain rfl : args = #[v0, v1] := by cases args; simp_all
  obtain ⟨rfl, rfl⟩ := trodVars_none hV
  obtain ⟨a0p, a0q, a0u, a0a, a0d, a0l, a0g, a0n, a0f, rfl, w0⟩ := open_entry (hval 0 30 v0 rfl rfl) h0
  obtain ⟨a1, rfl, _, _, w1⟩ := open_int Tryd.underlying3 (hval 1 3 v1 rfl rfl) h1
  clear hA0 hval0
  refine (walk a0p a0q a0u a0a a0d a0l a0g a0n a0f w0 a1 w1 W (of_laid hL)).mono fun e W' ⟨he, hg⟩ => ?_
  subst he
  exact ⟨_, rfl, ⟨_, _, _, [], p, [], hW', (trodAll_cons_mk (shut_bool Tryd.underlying4 _) trodAll_mk0), args_stay laidOut hg (by kernel_rfl) hAk hlt, rfl, hg.frame _, fun h => by cases h⟩⟩

theorem over : Rows.pteFramesRow.holds Tryd.pinned (OpenSpec.ofChange Rows.pteFramesSpec) :=
  OpenClaim.holds_of_wide 5 Tryd.f5 rfl rfl rfl rfl rfl rfl rfl ⟨rfl, rfl, rfl, rfl, rfl⟩ rfl rfl rfl rfl rfl (by kernel_rfl) Tryd.func5 (by kernel_rfl)
    (of_decide_eq_true (by kernel_rfl)) (by unfold Func.isWrapper; first | (rw [if_pos (by decide +kernel)]; kernel_rfl) | (rw [if_neg (by decide +kernel)]; exact ⟨rfl, rfl⟩))
    (fun os started H enc _ => lifted os started H enc)

theorem proved : Rows.PteFramesCardSaid :=
  Claim7.holds_tied_plain_at .later [] [.data] true (true, "9ed83ff48ac6890a3ed9680d7f8e0cf9fe25f4c2e3898ec45edd79a0e356e5a9") false
    over (fun _ h => by cases h) (by kernel_rfl) (fun _ h => by cases h) pteFrames_row_tie rfl ⟨rfl, rfl⟩ (by kernel_rfl) rfl
    (fun f fn hf hfn => by
      obtain rfl : f = 5 := Option.some.inj ((show Tryd.prog.funcNamed "demesne/demesnelaw03.PteFrames" = some 5 by kernel_rfl).symm.trans hf) |>.symm
      obtain rfl : fn = Tryd.f5 := (Option.some.inj (Tryd.func5.symm.trans hfn)).symm
      exact ⟨by kernel_rfl, fun j t ht => by
        rw [Tryd.params5] at ht
        have hm : t ∈ [30, 3] := by simpa using Array.mem_of_getElem? ht
        have hall : ([30, 3].all fun u => !Tryd.prog.wantsStandIn u) = true := by kernel_rfl
        exact (show Tryd.prog.wantsStandIn t = false by simpa using List.all_eq_true.1 hall t hm)⟩)
    (by kernel_rfl)
#print axioms proved
end Go.Proofs.YtnjoiknfaibheabDoor.pteFrames
