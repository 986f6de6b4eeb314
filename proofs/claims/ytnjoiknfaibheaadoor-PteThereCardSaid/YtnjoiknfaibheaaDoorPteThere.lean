/- For any address, places and place in a page: an address that is taken apart is put together again just if it is canonical, and what is put together is canonical and has its parts; the table of the flags' bits as the program lays it. -/
import Derived.Test.YtnjoiknfaibheaaDoorRows
import Derived.Test.YtnjoiknfaibheaaDoorCards
import Derived.Test.YtnjoiknfaibheaaDoorTie
import Derived.ProofKit
import Derived.OpenShut
import Derived.Stop.Joined
import Derived.SevenTiedAt
import Derived.Test.YtnjoiknfaibheaaDoorP7
import Derived.Test.YtnjoiknfaibheaaDoorP8
namespace Go.Proofs.YtnjoiknfaibheaaDoor.pteThere
open Go.ChangeShapes Go.WideShapes Go.ChangeAt Go.RowKit
set_option linter.unusedSimpArgs false
set_option linter.unusedVariables false

set_option maxHeartbeats 1000000 in
theorem walk (a0 : Int) (w0 : (Lit.int .u64 a0).wf = true) (a1a a1b a1c a1d : Int) (w1a : (Lit.int .i64 a1a).wf = true) (w1b : (Lit.int .i64 a1b).wf = true) (w1c : (Lit.int .i64 a1c).wf = true) (w1d : (Lit.int .i64 a1d).wf = true) (a2 : Int) (w2 : (Lit.int .i64 a2).wf = true) (w : World) (ht : Tab w) :
    Calls Tryd.prog 7 #[.int .u64 a0, .agg #[.int .i64 a1a, .int .i64 a1b, .int .i64 a1c, .int .i64 a1d], .int .i64 a2] w fun e w' => e = .returned (.bool true) ∧ Below w.heap.size w w' := by
  have u0 := wf_u64 w0
  have EQ := eq4
  have A := awake_c
  have T : Hid (Tab w) := ht
  obtain ⟨p, hp⟩ : ∃ p, a0 / 4096 / 512 / 512 / 512 % 512 = p := ⟨_, rfl⟩
  obtain ⟨q, hq⟩ : ∃ q, a0 / 4096 / 512 / 512 % 512 = q := ⟨_, rfl⟩
  obtain ⟨r, hr⟩ : ∃ r, a0 / 4096 / 512 % 512 = r := ⟨_, rfl⟩
  obtain ⟨s, hs⟩ : ∃ s, a0 / 4096 % 512 = s := ⟨_, rfl⟩
  obtain ⟨o, ho⟩ : ∃ o, a0 % 4096 = o := ⟨_, rfl⟩
  obtain ⟨X, hX⟩ : ∃ X, ext a0 = X := ⟨_, rfl⟩
  have S1 : Hid (∀ w : World, Calls Tryd.prog 16 #[.int .u64 a0] w fun e w' => e = .returned (.tuple #[.agg #[.int .i64 p, .int .i64 q, .int .i64 r, .int .i64 s], .int .i64 o]) ∧ Below w.heap.size w w') := fun w => by
    rw [← hp, ← hq, ← hr, ← hs, ← ho]; exact split_any a0 u0.1 u0.2 w
  have J1 : Hid (∀ w : World, Calls Tryd.prog 17 #[.agg #[.int .i64 p, .int .i64 q, .int .i64 r, .int .i64 s], .int .i64 o] w fun e w' => e = .returned (.tuple #[.int .u64 X, .int .i64 0]) ∧ Below w.heap.size w w') := fun w => by
    have e : ext ((((p * 512 + q) * 512 + r) * 512 + s) * 4096 + o) = X := by
      rw [← hp, ← hq, ← hr, ← hs, ← ho, parts_join, ← hX]; exact ext_mod _ _ (by omega)
    rw [← e]; exact join_ok p q r s o (by omega) (by omega) (by omega) (by omega) (by omega) (by omega) (by omega) (by omega) (by omega) (by omega) w
  have C1 : Hid (∀ w : World, Calls Tryd.prog 18 #[.int .u64 a0] w fun e w' => e = .returned (.bool (X == a0)) ∧ w' = w) := fun w => by rw [← hX]; exact canonical_any a0 u0.1 u0.2 w
  have hsh : IntKind.u64.wrap (X * 65536) = IntKind.u64.wrap (a0 * 65536) := by rw [← hX]; exact shl_ext a0
  obtain ⟨cc, hcc⟩ : ∃ cc, (X == a0) = cc := ⟨_, rfl⟩
  rw [hcc] at C1
  clear hp hq hr hs ho hX w0 ht
  by_cases g : 0 ≤ a1a ∧ a1a < 512 ∧ 0 ≤ a1b ∧ a1b < 512 ∧ 0 ≤ a1c ∧ a1c < 512 ∧ 0 ≤ a1d ∧ a1d < 512 ∧ 0 ≤ a2 ∧ a2 < 4096
  · obtain ⟨g1, g2, g3, g4, g5, g6, g7, g8, g9, g10⟩ := g
    obtain ⟨Y, hY⟩ : ∃ Y, ext ((((a1a * 512 + a1b) * 512 + a1c) * 512 + a1d) * 4096 + a2) = Y := ⟨_, rfl⟩
    have y0 : 0 ≤ Y ∧ Y < 18446744073709551616 := by rw [← hY]; exact ext_bd _
    have J2 : Hid (∀ w : World, Calls Tryd.prog 17 #[.agg #[.int .i64 a1a, .int .i64 a1b, .int .i64 a1c, .int .i64 a1d], .int .i64 a2] w fun e w' => e = .returned (.tuple #[.int .u64 Y, .int .i64 0]) ∧ Below w.heap.size w w') := fun w => by
      rw [← hY]; exact join_ok a1a a1b a1c a1d a2 g1 g2 g3 g4 g5 g6 g7 g8 g9 g10 w
    have S2 : Hid (∀ w : World, Calls Tryd.prog 16 #[.int .u64 Y] w fun e w' => e = .returned (.tuple #[.agg #[.int .i64 a1a, .int .i64 a1b, .int .i64 a1c, .int .i64 a1d], .int .i64 a2]) ∧ Below w.heap.size w w') := fun w => by
      obtain ⟨h1, h2, h3, h4, h5⟩ := join_parts a1a a1b a1c a1d a2 g1 g2 g3 g4 g5 g6 g7 g8 g9 g10 Y hY
      have := split_any Y y0.1 y0.2 w
      rw [h1, h2, h3, h4, h5] at this; exact this
    have C2 : Hid (∀ w : World, Calls Tryd.prog 18 #[.int .u64 Y] w fun e w' => e = .returned (.bool true) ∧ w' = w) := fun w => by
      have := canonical_any Y y0.1 y0.2 w
      rw [← hY, ext_ext, beq_self_eq_true] at this; rw [← hY]; exact this
    clear hY y0 g1 g2 g3 g4 g5 g6 g7 g8 g9 g10 w1a w1b w1c w1d w2
    cases cc
    · skip
      go_enter Tryd.func7, Tryd.ntmps7
      go_wp2_with fail
      refine (S1.out _).mono ?_
      rintro e w1 ⟨rfl, h1⟩
      have za1 : w.heap.size < w1.heap.size := Nat.lt_of_lt_of_le (by first | (simp; done) | (simp; omega)) h1.size
      have ca1_0 : w1.cell? ⟨w.heap.size, 0, none⟩ = some (.int .i64 a1a) := cell_next h1 (by first | (simp; done) | (simp; omega)) (by first | (simp; done))
      have ca1_1 : w1.cell? ⟨w.heap.size, 1, none⟩ = some (.int .i64 a1b) := cell_next h1 (by first | (simp; done) | (simp; omega)) (by first | (simp; done))
      have ca1_2 : w1.cell? ⟨w.heap.size, 2, none⟩ = some (.int .i64 a1c) := cell_next h1 (by first | (simp; done) | (simp; omega)) (by first | (simp; done))
      have ca1_3 : w1.cell? ⟨w.heap.size, 3, none⟩ = some (.int .i64 a1d) := cell_next h1 (by first | (simp; done) | (simp; omega)) (by first | (simp; done))
      have B1 : Hid (Below w.heap.size w w1) := below_then (by first | exact Below.refl _ _ | exact below_new (Below.refl _ _) _ | exact below_new2 (Below.refl _ _) _ _ | exact below_new (below_new2 (Below.refl _ _) _ _) _) h1
      clear h1
      go_wp2_with fail
      refine (J1.out _).mono ?_
      rintro e w2 ⟨rfl, h2⟩
      have za2 : w.heap.size < w2.heap.size := Nat.lt_of_lt_of_le (by first | exact za1 | (rw [World.size_alloc]; omega) | (simp; done) | (simp; omega)) h2.size
      have ca2_0 : w2.cell? ⟨w.heap.size, 0, none⟩ = some (.int .i64 a1a) := cell_next h2 (by first | exact za1 | (rw [World.size_alloc]; omega) | (simp; done) | (simp; omega)) (by first | exact ca1_0 | exact (cell_old za1 _).trans ca1_0 | (simp; done))
      have ca2_1 : w2.cell? ⟨w.heap.size, 1, none⟩ = some (.int .i64 a1b) := cell_next h2 (by first | exact za1 | (rw [World.size_alloc]; omega) | (simp; done) | (simp; omega)) (by first | exact ca1_1 | exact (cell_old za1 _).trans ca1_1 | (simp; done))
      have ca2_2 : w2.cell? ⟨w.heap.size, 2, none⟩ = some (.int .i64 a1c) := cell_next h2 (by first | exact za1 | (rw [World.size_alloc]; omega) | (simp; done) | (simp; omega)) (by first | exact ca1_2 | exact (cell_old za1 _).trans ca1_2 | (simp; done))
      have ca2_3 : w2.cell? ⟨w.heap.size, 3, none⟩ = some (.int .i64 a1d) := cell_next h2 (by first | exact za1 | (rw [World.size_alloc]; omega) | (simp; done) | (simp; omega)) (by first | exact ca1_3 | exact (cell_old za1 _).trans ca1_3 | (simp; done))
      clear za1 ca1_0 ca1_1 ca1_2 ca1_3
      have B2 : Hid (Below w.heap.size w w2) := below_then (by first | exact B1.out | exact below_new (B1.out) _ | exact below_new2 (B1.out) _ _ | exact below_new (below_new2 (B1.out) _ _) _) h2
      clear h2
      go_wp2_with fail
      refine (C1.out _).mono ?_
      rintro e w3 ⟨rfl, rfl⟩
      go_wp2_with fail
      refine (J2.out _).mono ?_
      rintro e w4 ⟨rfl, h4⟩
      have za4 : w.heap.size < w4.heap.size := Nat.lt_of_lt_of_le (by first | exact za2 | (rw [World.size_alloc]; omega) | (simp; done) | (simp; omega)) h4.size
      have ca4_0 : w4.cell? ⟨w.heap.size, 0, none⟩ = some (.int .i64 a1a) := cell_next h4 (by first | exact za2 | (rw [World.size_alloc]; omega) | (simp; done) | (simp; omega)) (by first | exact ca2_0 | exact (cell_old za2 _).trans ca2_0 | (simp; done))
      have ca4_1 : w4.cell? ⟨w.heap.size, 1, none⟩ = some (.int .i64 a1b) := cell_next h4 (by first | exact za2 | (rw [World.size_alloc]; omega) | (simp; done) | (simp; omega)) (by first | exact ca2_1 | exact (cell_old za2 _).trans ca2_1 | (simp; done))
      have ca4_2 : w4.cell? ⟨w.heap.size, 2, none⟩ = some (.int .i64 a1c) := cell_next h4 (by first | exact za2 | (rw [World.size_alloc]; omega) | (simp; done) | (simp; omega)) (by first | exact ca2_2 | exact (cell_old za2 _).trans ca2_2 | (simp; done))
      have ca4_3 : w4.cell? ⟨w.heap.size, 3, none⟩ = some (.int .i64 a1d) := cell_next h4 (by first | exact za2 | (rw [World.size_alloc]; omega) | (simp; done) | (simp; omega)) (by first | exact ca2_3 | exact (cell_old za2 _).trans ca2_3 | (simp; done))
      clear za2 ca2_0 ca2_1 ca2_2 ca2_3
      have B4 : Hid (Below w.heap.size w w4) := below_then (by first | exact B2.out | exact below_new (B2.out) _ | exact below_new2 (B2.out) _ _ | exact below_new (below_new2 (B2.out) _ _) _) h4
      clear h4
      go_wp2_with fail
      refine (S2.out _).mono ?_
      rintro e w5 ⟨rfl, h5⟩
      have za5 : w.heap.size < w5.heap.size := Nat.lt_of_lt_of_le (by first | exact za4 | (rw [World.size_alloc]; omega) | (simp; done) | (simp; omega)) h5.size
      have ca5_0 : w5.cell? ⟨w.heap.size, 0, none⟩ = some (.int .i64 a1a) := cell_next h5 (by first | exact za4 | (rw [World.size_alloc]; omega) | (simp; done) | (simp; omega)) (by first | exact ca4_0 | exact (cell_old za4 _).trans ca4_0 | (simp; done))
      have ca5_1 : w5.cell? ⟨w.heap.size, 1, none⟩ = some (.int .i64 a1b) := cell_next h5 (by first | exact za4 | (rw [World.size_alloc]; omega) | (simp; done) | (simp; omega)) (by first | exact ca4_1 | exact (cell_old za4 _).trans ca4_1 | (simp; done))
      have ca5_2 : w5.cell? ⟨w.heap.size, 2, none⟩ = some (.int .i64 a1c) := cell_next h5 (by first | exact za4 | (rw [World.size_alloc]; omega) | (simp; done) | (simp; omega)) (by first | exact ca4_2 | exact (cell_old za4 _).trans ca4_2 | (simp; done))
      have ca5_3 : w5.cell? ⟨w.heap.size, 3, none⟩ = some (.int .i64 a1d) := cell_next h5 (by first | exact za4 | (rw [World.size_alloc]; omega) | (simp; done) | (simp; omega)) (by first | exact ca4_3 | exact (cell_old za4 _).trans ca4_3 | (simp; done))
      clear za4 ca4_0 ca4_1 ca4_2 ca4_3
      have B5 : Hid (Below w.heap.size w w5) := below_then (by first | exact B4.out | exact below_new (B4.out) _ | exact below_new2 (B4.out) _ _ | exact below_new (below_new2 (B4.out) _ _) _) h5
      clear h5
      go_wp2_with fail
      refine (A.out _ (T.out.keep (by first | exact B5.out | exact below_new (B5.out) _ | exact below_new2 (B5.out) _ _ | exact below_new (below_new2 (B5.out) _ _) _))).mono ?_
      rintro e w6 ⟨rfl, h6⟩
      have za6 : w.heap.size < w6.heap.size := Nat.lt_of_lt_of_le (by first | exact za5 | (rw [World.size_alloc]; omega) | (simp; done) | (simp; omega)) h6.size
      have ca6_0 : w6.cell? ⟨w.heap.size, 0, none⟩ = some (.int .i64 a1a) := cell_next h6 (by first | exact za5 | (rw [World.size_alloc]; omega) | (simp; done) | (simp; omega)) (by first | exact ca5_0 | exact (cell_old za5 _).trans ca5_0 | (simp; done))
      have ca6_1 : w6.cell? ⟨w.heap.size, 1, none⟩ = some (.int .i64 a1b) := cell_next h6 (by first | exact za5 | (rw [World.size_alloc]; omega) | (simp; done) | (simp; omega)) (by first | exact ca5_1 | exact (cell_old za5 _).trans ca5_1 | (simp; done))
      have ca6_2 : w6.cell? ⟨w.heap.size, 2, none⟩ = some (.int .i64 a1c) := cell_next h6 (by first | exact za5 | (rw [World.size_alloc]; omega) | (simp; done) | (simp; omega)) (by first | exact ca5_2 | exact (cell_old za5 _).trans ca5_2 | (simp; done))
      have ca6_3 : w6.cell? ⟨w.heap.size, 3, none⟩ = some (.int .i64 a1d) := cell_next h6 (by first | exact za5 | (rw [World.size_alloc]; omega) | (simp; done) | (simp; omega)) (by first | exact ca5_3 | exact (cell_old za5 _).trans ca5_3 | (simp; done))
      have zq6 : w5.heap.size < w6.heap.size := Nat.lt_of_lt_of_le (by first | (simp; done) | (simp; omega)) h6.size
      have cq6_0 : w6.cell? ⟨w5.heap.size, 0, none⟩ = some (.int .i64 a1a) := cell_next h6 (by first | (simp; done) | (simp; omega)) (by first | (simp; done))
      have cq6_1 : w6.cell? ⟨w5.heap.size, 1, none⟩ = some (.int .i64 a1b) := cell_next h6 (by first | (simp; done) | (simp; omega)) (by first | (simp; done))
      have cq6_2 : w6.cell? ⟨w5.heap.size, 2, none⟩ = some (.int .i64 a1c) := cell_next h6 (by first | (simp; done) | (simp; omega)) (by first | (simp; done))
      have cq6_3 : w6.cell? ⟨w5.heap.size, 3, none⟩ = some (.int .i64 a1d) := cell_next h6 (by first | (simp; done) | (simp; omega)) (by first | (simp; done))
      clear za5 ca5_0 ca5_1 ca5_2 ca5_3
      have B6 : Hid (Below w.heap.size w w6) := below_then (by first | exact B5.out | exact below_new (B5.out) _ | exact below_new2 (B5.out) _ _ | exact below_new (below_new2 (B5.out) _ _) _) h6
      clear h6
      go_wp2_with fail
      refine (C2.out _).mono ?_
      rintro e w7 ⟨rfl, rfl⟩
      go_wp2_with fail
      go_ret
      exact ⟨by simp, by first | exact B6.out | exact below_new (B6.out) _ | exact below_new2 (B6.out) _ _ | exact below_new (below_new2 (B6.out) _ _) _⟩
    · skip
      go_enter Tryd.func7, Tryd.ntmps7
      go_wp2_with fail
      refine (S1.out _).mono ?_
      rintro e w1 ⟨rfl, h1⟩
      have za1 : w.heap.size < w1.heap.size := Nat.lt_of_lt_of_le (by first | (simp; done) | (simp; omega)) h1.size
      have ca1_0 : w1.cell? ⟨w.heap.size, 0, none⟩ = some (.int .i64 a1a) := cell_next h1 (by first | (simp; done) | (simp; omega)) (by first | (simp; done))
      have ca1_1 : w1.cell? ⟨w.heap.size, 1, none⟩ = some (.int .i64 a1b) := cell_next h1 (by first | (simp; done) | (simp; omega)) (by first | (simp; done))
      have ca1_2 : w1.cell? ⟨w.heap.size, 2, none⟩ = some (.int .i64 a1c) := cell_next h1 (by first | (simp; done) | (simp; omega)) (by first | (simp; done))
      have ca1_3 : w1.cell? ⟨w.heap.size, 3, none⟩ = some (.int .i64 a1d) := cell_next h1 (by first | (simp; done) | (simp; omega)) (by first | (simp; done))
      have B1 : Hid (Below w.heap.size w w1) := below_then (by first | exact Below.refl _ _ | exact below_new (Below.refl _ _) _ | exact below_new2 (Below.refl _ _) _ _ | exact below_new (below_new2 (Below.refl _ _) _ _) _) h1
      clear h1
      go_wp2_with fail
      refine (J1.out _).mono ?_
      rintro e w2 ⟨rfl, h2⟩
      have za2 : w.heap.size < w2.heap.size := Nat.lt_of_lt_of_le (by first | exact za1 | (rw [World.size_alloc]; omega) | (simp; done) | (simp; omega)) h2.size
      have ca2_0 : w2.cell? ⟨w.heap.size, 0, none⟩ = some (.int .i64 a1a) := cell_next h2 (by first | exact za1 | (rw [World.size_alloc]; omega) | (simp; done) | (simp; omega)) (by first | exact ca1_0 | exact (cell_old za1 _).trans ca1_0 | (simp; done))
      have ca2_1 : w2.cell? ⟨w.heap.size, 1, none⟩ = some (.int .i64 a1b) := cell_next h2 (by first | exact za1 | (rw [World.size_alloc]; omega) | (simp; done) | (simp; omega)) (by first | exact ca1_1 | exact (cell_old za1 _).trans ca1_1 | (simp; done))
      have ca2_2 : w2.cell? ⟨w.heap.size, 2, none⟩ = some (.int .i64 a1c) := cell_next h2 (by first | exact za1 | (rw [World.size_alloc]; omega) | (simp; done) | (simp; omega)) (by first | exact ca1_2 | exact (cell_old za1 _).trans ca1_2 | (simp; done))
      have ca2_3 : w2.cell? ⟨w.heap.size, 3, none⟩ = some (.int .i64 a1d) := cell_next h2 (by first | exact za1 | (rw [World.size_alloc]; omega) | (simp; done) | (simp; omega)) (by first | exact ca1_3 | exact (cell_old za1 _).trans ca1_3 | (simp; done))
      clear za1 ca1_0 ca1_1 ca1_2 ca1_3
      have B2 : Hid (Below w.heap.size w w2) := below_then (by first | exact B1.out | exact below_new (B1.out) _ | exact below_new2 (B1.out) _ _ | exact below_new (below_new2 (B1.out) _ _) _) h2
      clear h2
      go_wp2_with fail
      refine (C1.out _).mono ?_
      rintro e w3 ⟨rfl, rfl⟩
      go_wp2_with fail
      refine (J2.out _).mono ?_
      rintro e w4 ⟨rfl, h4⟩
      have za4 : w.heap.size < w4.heap.size := Nat.lt_of_lt_of_le (by first | exact za2 | (rw [World.size_alloc]; omega) | (simp; done) | (simp; omega)) h4.size
      have ca4_0 : w4.cell? ⟨w.heap.size, 0, none⟩ = some (.int .i64 a1a) := cell_next h4 (by first | exact za2 | (rw [World.size_alloc]; omega) | (simp; done) | (simp; omega)) (by first | exact ca2_0 | exact (cell_old za2 _).trans ca2_0 | (simp; done))
      have ca4_1 : w4.cell? ⟨w.heap.size, 1, none⟩ = some (.int .i64 a1b) := cell_next h4 (by first | exact za2 | (rw [World.size_alloc]; omega) | (simp; done) | (simp; omega)) (by first | exact ca2_1 | exact (cell_old za2 _).trans ca2_1 | (simp; done))
      have ca4_2 : w4.cell? ⟨w.heap.size, 2, none⟩ = some (.int .i64 a1c) := cell_next h4 (by first | exact za2 | (rw [World.size_alloc]; omega) | (simp; done) | (simp; omega)) (by first | exact ca2_2 | exact (cell_old za2 _).trans ca2_2 | (simp; done))
      have ca4_3 : w4.cell? ⟨w.heap.size, 3, none⟩ = some (.int .i64 a1d) := cell_next h4 (by first | exact za2 | (rw [World.size_alloc]; omega) | (simp; done) | (simp; omega)) (by first | exact ca2_3 | exact (cell_old za2 _).trans ca2_3 | (simp; done))
      clear za2 ca2_0 ca2_1 ca2_2 ca2_3
      have B4 : Hid (Below w.heap.size w w4) := below_then (by first | exact B2.out | exact below_new (B2.out) _ | exact below_new2 (B2.out) _ _ | exact below_new (below_new2 (B2.out) _ _) _) h4
      clear h4
      go_wp2_with fail
      refine (S2.out _).mono ?_
      rintro e w5 ⟨rfl, h5⟩
      have za5 : w.heap.size < w5.heap.size := Nat.lt_of_lt_of_le (by first | exact za4 | (rw [World.size_alloc]; omega) | (simp; done) | (simp; omega)) h5.size
      have ca5_0 : w5.cell? ⟨w.heap.size, 0, none⟩ = some (.int .i64 a1a) := cell_next h5 (by first | exact za4 | (rw [World.size_alloc]; omega) | (simp; done) | (simp; omega)) (by first | exact ca4_0 | exact (cell_old za4 _).trans ca4_0 | (simp; done))
      have ca5_1 : w5.cell? ⟨w.heap.size, 1, none⟩ = some (.int .i64 a1b) := cell_next h5 (by first | exact za4 | (rw [World.size_alloc]; omega) | (simp; done) | (simp; omega)) (by first | exact ca4_1 | exact (cell_old za4 _).trans ca4_1 | (simp; done))
      have ca5_2 : w5.cell? ⟨w.heap.size, 2, none⟩ = some (.int .i64 a1c) := cell_next h5 (by first | exact za4 | (rw [World.size_alloc]; omega) | (simp; done) | (simp; omega)) (by first | exact ca4_2 | exact (cell_old za4 _).trans ca4_2 | (simp; done))
      have ca5_3 : w5.cell? ⟨w.heap.size, 3, none⟩ = some (.int .i64 a1d) := cell_next h5 (by first | exact za4 | (rw [World.size_alloc]; omega) | (simp; done) | (simp; omega)) (by first | exact ca4_3 | exact (cell_old za4 _).trans ca4_3 | (simp; done))
      clear za4 ca4_0 ca4_1 ca4_2 ca4_3
      have B5 : Hid (Below w.heap.size w w5) := below_then (by first | exact B4.out | exact below_new (B4.out) _ | exact below_new2 (B4.out) _ _ | exact below_new (below_new2 (B4.out) _ _) _) h5
      clear h5
      go_wp2_with fail
      refine (A.out _ (T.out.keep (by first | exact B5.out | exact below_new (B5.out) _ | exact below_new2 (B5.out) _ _ | exact below_new (below_new2 (B5.out) _ _) _))).mono ?_
      rintro e w6 ⟨rfl, h6⟩
      have za6 : w.heap.size < w6.heap.size := Nat.lt_of_lt_of_le (by first | exact za5 | (rw [World.size_alloc]; omega) | (simp; done) | (simp; omega)) h6.size
      have ca6_0 : w6.cell? ⟨w.heap.size, 0, none⟩ = some (.int .i64 a1a) := cell_next h6 (by first | exact za5 | (rw [World.size_alloc]; omega) | (simp; done) | (simp; omega)) (by first | exact ca5_0 | exact (cell_old za5 _).trans ca5_0 | (simp; done))
      have ca6_1 : w6.cell? ⟨w.heap.size, 1, none⟩ = some (.int .i64 a1b) := cell_next h6 (by first | exact za5 | (rw [World.size_alloc]; omega) | (simp; done) | (simp; omega)) (by first | exact ca5_1 | exact (cell_old za5 _).trans ca5_1 | (simp; done))
      have ca6_2 : w6.cell? ⟨w.heap.size, 2, none⟩ = some (.int .i64 a1c) := cell_next h6 (by first | exact za5 | (rw [World.size_alloc]; omega) | (simp; done) | (simp; omega)) (by first | exact ca5_2 | exact (cell_old za5 _).trans ca5_2 | (simp; done))
      have ca6_3 : w6.cell? ⟨w.heap.size, 3, none⟩ = some (.int .i64 a1d) := cell_next h6 (by first | exact za5 | (rw [World.size_alloc]; omega) | (simp; done) | (simp; omega)) (by first | exact ca5_3 | exact (cell_old za5 _).trans ca5_3 | (simp; done))
      have zq6 : w5.heap.size < w6.heap.size := Nat.lt_of_lt_of_le (by first | (simp; done) | (simp; omega)) h6.size
      have cq6_0 : w6.cell? ⟨w5.heap.size, 0, none⟩ = some (.int .i64 a1a) := cell_next h6 (by first | (simp; done) | (simp; omega)) (by first | (simp; done))
      have cq6_1 : w6.cell? ⟨w5.heap.size, 1, none⟩ = some (.int .i64 a1b) := cell_next h6 (by first | (simp; done) | (simp; omega)) (by first | (simp; done))
      have cq6_2 : w6.cell? ⟨w5.heap.size, 2, none⟩ = some (.int .i64 a1c) := cell_next h6 (by first | (simp; done) | (simp; omega)) (by first | (simp; done))
      have cq6_3 : w6.cell? ⟨w5.heap.size, 3, none⟩ = some (.int .i64 a1d) := cell_next h6 (by first | (simp; done) | (simp; omega)) (by first | (simp; done))
      clear za5 ca5_0 ca5_1 ca5_2 ca5_3
      have B6 : Hid (Below w.heap.size w w6) := below_then (by first | exact B5.out | exact below_new (B5.out) _ | exact below_new2 (B5.out) _ _ | exact below_new (below_new2 (B5.out) _ _) _) h6
      clear h6
      go_wp2_with fail
      refine (C2.out _).mono ?_
      rintro e w7 ⟨rfl, rfl⟩
      go_wp2_with fail
      go_ret
      exact ⟨by simp, by first | exact B6.out | exact below_new (B6.out) _ | exact below_new2 (B6.out) _ _ | exact below_new (below_new2 (B6.out) _ _) _⟩
  · have J2 : Hid (∀ w : World, Calls Tryd.prog 17 #[.agg #[.int .i64 a1a, .int .i64 a1b, .int .i64 a1c, .int .i64 a1d], .int .i64 a2] w fun e w' => e = .returned (.tuple #[.int .u64 0, .int .i64 1]) ∧ Below w.heap.size w w') := fun w => join_bad a1a a1b a1c a1d a2 g w
    clear g w1a w1b w1c w1d w2
    cases cc
    · skip
      go_enter Tryd.func7, Tryd.ntmps7
      go_wp2_with fail
      refine (S1.out _).mono ?_
      rintro e w1 ⟨rfl, h1⟩
      have za1 : w.heap.size < w1.heap.size := Nat.lt_of_lt_of_le (by first | (simp; done) | (simp; omega)) h1.size
      have ca1_0 : w1.cell? ⟨w.heap.size, 0, none⟩ = some (.int .i64 a1a) := cell_next h1 (by first | (simp; done) | (simp; omega)) (by first | (simp; done))
      have ca1_1 : w1.cell? ⟨w.heap.size, 1, none⟩ = some (.int .i64 a1b) := cell_next h1 (by first | (simp; done) | (simp; omega)) (by first | (simp; done))
      have ca1_2 : w1.cell? ⟨w.heap.size, 2, none⟩ = some (.int .i64 a1c) := cell_next h1 (by first | (simp; done) | (simp; omega)) (by first | (simp; done))
      have ca1_3 : w1.cell? ⟨w.heap.size, 3, none⟩ = some (.int .i64 a1d) := cell_next h1 (by first | (simp; done) | (simp; omega)) (by first | (simp; done))
      have B1 : Hid (Below w.heap.size w w1) := below_then (by first | exact Below.refl _ _ | exact below_new (Below.refl _ _) _ | exact below_new2 (Below.refl _ _) _ _ | exact below_new (below_new2 (Below.refl _ _) _ _) _) h1
      clear h1
      go_wp2_with fail
      refine (J1.out _).mono ?_
      rintro e w2 ⟨rfl, h2⟩
      have za2 : w.heap.size < w2.heap.size := Nat.lt_of_lt_of_le (by first | exact za1 | (rw [World.size_alloc]; omega) | (simp; done) | (simp; omega)) h2.size
      have ca2_0 : w2.cell? ⟨w.heap.size, 0, none⟩ = some (.int .i64 a1a) := cell_next h2 (by first | exact za1 | (rw [World.size_alloc]; omega) | (simp; done) | (simp; omega)) (by first | exact ca1_0 | exact (cell_old za1 _).trans ca1_0 | (simp; done))
      have ca2_1 : w2.cell? ⟨w.heap.size, 1, none⟩ = some (.int .i64 a1b) := cell_next h2 (by first | exact za1 | (rw [World.size_alloc]; omega) | (simp; done) | (simp; omega)) (by first | exact ca1_1 | exact (cell_old za1 _).trans ca1_1 | (simp; done))
      have ca2_2 : w2.cell? ⟨w.heap.size, 2, none⟩ = some (.int .i64 a1c) := cell_next h2 (by first | exact za1 | (rw [World.size_alloc]; omega) | (simp; done) | (simp; omega)) (by first | exact ca1_2 | exact (cell_old za1 _).trans ca1_2 | (simp; done))
      have ca2_3 : w2.cell? ⟨w.heap.size, 3, none⟩ = some (.int .i64 a1d) := cell_next h2 (by first | exact za1 | (rw [World.size_alloc]; omega) | (simp; done) | (simp; omega)) (by first | exact ca1_3 | exact (cell_old za1 _).trans ca1_3 | (simp; done))
      clear za1 ca1_0 ca1_1 ca1_2 ca1_3
      have B2 : Hid (Below w.heap.size w w2) := below_then (by first | exact B1.out | exact below_new (B1.out) _ | exact below_new2 (B1.out) _ _ | exact below_new (below_new2 (B1.out) _ _) _) h2
      clear h2
      go_wp2_with fail
      refine (C1.out _).mono ?_
      rintro e w3 ⟨rfl, rfl⟩
      go_wp2_with fail
      refine (J2.out _).mono ?_
      rintro e w4 ⟨rfl, h4⟩
      have za4 : w.heap.size < w4.heap.size := Nat.lt_of_lt_of_le (by first | exact za2 | (rw [World.size_alloc]; omega) | (simp; done) | (simp; omega)) h4.size
      have ca4_0 : w4.cell? ⟨w.heap.size, 0, none⟩ = some (.int .i64 a1a) := cell_next h4 (by first | exact za2 | (rw [World.size_alloc]; omega) | (simp; done) | (simp; omega)) (by first | exact ca2_0 | exact (cell_old za2 _).trans ca2_0 | (simp; done))
      have ca4_1 : w4.cell? ⟨w.heap.size, 1, none⟩ = some (.int .i64 a1b) := cell_next h4 (by first | exact za2 | (rw [World.size_alloc]; omega) | (simp; done) | (simp; omega)) (by first | exact ca2_1 | exact (cell_old za2 _).trans ca2_1 | (simp; done))
      have ca4_2 : w4.cell? ⟨w.heap.size, 2, none⟩ = some (.int .i64 a1c) := cell_next h4 (by first | exact za2 | (rw [World.size_alloc]; omega) | (simp; done) | (simp; omega)) (by first | exact ca2_2 | exact (cell_old za2 _).trans ca2_2 | (simp; done))
      have ca4_3 : w4.cell? ⟨w.heap.size, 3, none⟩ = some (.int .i64 a1d) := cell_next h4 (by first | exact za2 | (rw [World.size_alloc]; omega) | (simp; done) | (simp; omega)) (by first | exact ca2_3 | exact (cell_old za2 _).trans ca2_3 | (simp; done))
      clear za2 ca2_0 ca2_1 ca2_2 ca2_3
      have B4 : Hid (Below w.heap.size w w4) := below_then (by first | exact B2.out | exact below_new (B2.out) _ | exact below_new2 (B2.out) _ _ | exact below_new (below_new2 (B2.out) _ _) _) h4
      clear h4
      go_wp2_with fail
      refine (A.out _ (T.out.keep (by first | exact B4.out | exact below_new (B4.out) _ | exact below_new2 (B4.out) _ _ | exact below_new (below_new2 (B4.out) _ _) _))).mono ?_
      rintro e w6 ⟨rfl, h6⟩
      have B6 : Hid (Below w.heap.size w w6) := below_then (by first | exact B4.out | exact below_new (B4.out) _ | exact below_new2 (B4.out) _ _ | exact below_new (below_new2 (B4.out) _ _) _) h6
      clear h6
      go_wp2_with fail
      go_ret
      exact ⟨rfl, by first | exact B6.out | exact below_new (B6.out) _ | exact below_new2 (B6.out) _ _ | exact below_new (below_new2 (B6.out) _ _) _⟩
    · skip
      go_enter Tryd.func7, Tryd.ntmps7
      go_wp2_with fail
      refine (S1.out _).mono ?_
      rintro e w1 ⟨rfl, h1⟩
      have za1 : w.heap.size < w1.heap.size := Nat.lt_of_lt_of_le (by first | (simp; done) | (simp; omega)) h1.size
      have ca1_0 : w1.cell? ⟨w.heap.size, 0, none⟩ = some (.int .i64 a1a) := cell_next h1 (by first | (simp; done) | (simp; omega)) (by first | (simp; done))
      have ca1_1 : w1.cell? ⟨w.heap.size, 1, none⟩ = some (.int .i64 a1b) := cell_next h1 (by first | (simp; done) | (simp; omega)) (by first | (simp; done))
      have ca1_2 : w1.cell? ⟨w.heap.size, 2, none⟩ = some (.int .i64 a1c) := cell_next h1 (by first | (simp; done) | (simp; omega)) (by first | (simp; done))
      have ca1_3 : w1.cell? ⟨w.heap.size, 3, none⟩ = some (.int .i64 a1d) := cell_next h1 (by first | (simp; done) | (simp; omega)) (by first | (simp; done))
      have B1 : Hid (Below w.heap.size w w1) := below_then (by first | exact Below.refl _ _ | exact below_new (Below.refl _ _) _ | exact below_new2 (Below.refl _ _) _ _ | exact below_new (below_new2 (Below.refl _ _) _ _) _) h1
      clear h1
      go_wp2_with fail
      refine (J1.out _).mono ?_
      rintro e w2 ⟨rfl, h2⟩
      have za2 : w.heap.size < w2.heap.size := Nat.lt_of_lt_of_le (by first | exact za1 | (rw [World.size_alloc]; omega) | (simp; done) | (simp; omega)) h2.size
      have ca2_0 : w2.cell? ⟨w.heap.size, 0, none⟩ = some (.int .i64 a1a) := cell_next h2 (by first | exact za1 | (rw [World.size_alloc]; omega) | (simp; done) | (simp; omega)) (by first | exact ca1_0 | exact (cell_old za1 _).trans ca1_0 | (simp; done))
      have ca2_1 : w2.cell? ⟨w.heap.size, 1, none⟩ = some (.int .i64 a1b) := cell_next h2 (by first | exact za1 | (rw [World.size_alloc]; omega) | (simp; done) | (simp; omega)) (by first | exact ca1_1 | exact (cell_old za1 _).trans ca1_1 | (simp; done))
      have ca2_2 : w2.cell? ⟨w.heap.size, 2, none⟩ = some (.int .i64 a1c) := cell_next h2 (by first | exact za1 | (rw [World.size_alloc]; omega) | (simp; done) | (simp; omega)) (by first | exact ca1_2 | exact (cell_old za1 _).trans ca1_2 | (simp; done))
      have ca2_3 : w2.cell? ⟨w.heap.size, 3, none⟩ = some (.int .i64 a1d) := cell_next h2 (by first | exact za1 | (rw [World.size_alloc]; omega) | (simp; done) | (simp; omega)) (by first | exact ca1_3 | exact (cell_old za1 _).trans ca1_3 | (simp; done))
      clear za1 ca1_0 ca1_1 ca1_2 ca1_3
      have B2 : Hid (Below w.heap.size w w2) := below_then (by first | exact B1.out | exact below_new (B1.out) _ | exact below_new2 (B1.out) _ _ | exact below_new (below_new2 (B1.out) _ _) _) h2
      clear h2
      go_wp2_with fail
      refine (C1.out _).mono ?_
      rintro e w3 ⟨rfl, rfl⟩
      go_wp2_with fail
      refine (J2.out _).mono ?_
      rintro e w4 ⟨rfl, h4⟩
      have za4 : w.heap.size < w4.heap.size := Nat.lt_of_lt_of_le (by first | exact za2 | (rw [World.size_alloc]; omega) | (simp; done) | (simp; omega)) h4.size
      have ca4_0 : w4.cell? ⟨w.heap.size, 0, none⟩ = some (.int .i64 a1a) := cell_next h4 (by first | exact za2 | (rw [World.size_alloc]; omega) | (simp; done) | (simp; omega)) (by first | exact ca2_0 | exact (cell_old za2 _).trans ca2_0 | (simp; done))
      have ca4_1 : w4.cell? ⟨w.heap.size, 1, none⟩ = some (.int .i64 a1b) := cell_next h4 (by first | exact za2 | (rw [World.size_alloc]; omega) | (simp; done) | (simp; omega)) (by first | exact ca2_1 | exact (cell_old za2 _).trans ca2_1 | (simp; done))
      have ca4_2 : w4.cell? ⟨w.heap.size, 2, none⟩ = some (.int .i64 a1c) := cell_next h4 (by first | exact za2 | (rw [World.size_alloc]; omega) | (simp; done) | (simp; omega)) (by first | exact ca2_2 | exact (cell_old za2 _).trans ca2_2 | (simp; done))
      have ca4_3 : w4.cell? ⟨w.heap.size, 3, none⟩ = some (.int .i64 a1d) := cell_next h4 (by first | exact za2 | (rw [World.size_alloc]; omega) | (simp; done) | (simp; omega)) (by first | exact ca2_3 | exact (cell_old za2 _).trans ca2_3 | (simp; done))
      clear za2 ca2_0 ca2_1 ca2_2 ca2_3
      have B4 : Hid (Below w.heap.size w w4) := below_then (by first | exact B2.out | exact below_new (B2.out) _ | exact below_new2 (B2.out) _ _ | exact below_new (below_new2 (B2.out) _ _) _) h4
      clear h4
      go_wp2_with fail
      refine (A.out _ (T.out.keep (by first | exact B4.out | exact below_new (B4.out) _ | exact below_new2 (B4.out) _ _ | exact below_new (below_new2 (B4.out) _ _) _))).mono ?_
      rintro e w6 ⟨rfl, h6⟩
      have B6 : Hid (Below w.heap.size w w6) := below_then (by first | exact B4.out | exact below_new (B4.out) _ | exact below_new2 (B4.out) _ _ | exact below_new (below_new2 (B4.out) _ _) _) h6
      clear h6
      go_wp2_with fail
      go_ret
      exact ⟨rfl, by first | exact B6.out | exact below_new (B6.out) _ | exact below_new2 (B6.out) _ _ | exact below_new (below_new2 (B6.out) _ _) _⟩

set_option maxRecDepth 100000 in
theorem lifted (os : Os) (started : os.Started) (H : Type) (enc : TypeId × Value → H) :
    ReturnsInHanded {} Tryd.checked os 7 .any (fun w args => (Rows.pteThereSpec.pre enc Tryd.prog Tryd.f7 [] false w args ∧ laidMetH Tryd.prog laidL w) ∧ sizedMet enc Tryd.prog Tryd.f7 (OpenSpec.ofChange Rows.pteThereSpec) false w args)
      (Rows.pteThereSpec.post enc Tryd.prog Tryd.f7 false true false false) := by
  refine returnsInHanded_of_change_and (C := Tryd.checked) (X := fun w _ => laidMetH Tryd.prog laidL w) (fun _ _ _ hh h => h.of_heap hh) own started (by kernel_rfl) Tryd.func7
    (ChangeSpec.witness_shaped (enc := enc) (C := Tryd.checked) (os := os) (X := fun w _ => laidMetH Tryd.prog laidL w) false (World.doorLaid Tryd.prog 400 os) #[.int .u64 0, .agg #[.int .i64 0, .int .i64 0, .int .i64 0, .int .i64 0], .int .i64 0] 8 rfl (World.shaped_of_RefB (by kernel_rfl) (by kernel_rfl)) (by kernel_rfl) (by kernel_rfl) (by kernel_rfl) (door_met os _)) ?_
  intro W base args ds gs before hval0 hW _ _ hL _
  have hval : ∀ (j : Nat) t v, Tryd.f7.params[j]? = some t → args[j]? = some v → Value.okWide Tryd.prog W .any base t v := hval0
  have hW' := hW
  obtain ⟨p, q, hA0, hV, hbef, hfz, hnd⟩ := hW
  have hA : DataW.TrodAll enc Tryd.prog W 0 (fun _ => true) true Tryd.f7.params.toList args.toList ds p := hA0
  have hAk := hA
  have hlt : ∀ x ∈ p, x.block < W.heap.size := fun x hx => hW'.lt x (by rw [hbef]; exact List.mem_append_left _ hx)
  rw [Tryd.params7] at hA hval
  obtain ⟨v0, vs0, d0, ds0, p0, q0, hargs, rfl, hp0, h0, r0⟩ := trodAll_cons hA
  obtain ⟨v1, vs1, d1, ds1, p1, q1, rfl, rfl, hp1, h1, r1⟩ := trodAll_cons r0
  obtain ⟨v2, vs2, d2, ds2, p2, q2, rfl, rfl, hp2, h2, r2⟩ := trodAll_cons r1
  obtain ⟨rfl, rfl, hpz⟩ := trodAll_nil r2
  obtain rfl : args = #[v0, v1, v2] := by cases args; simp_all
  obtain ⟨rfl, rfl⟩ := trodVars_none hV
  obtain ⟨a0, rfl, _, _, w0⟩ := open_int Tryd.underlying24 (hval 0 24 v0 rfl rfl) h0
  obtain ⟨a1a, a1b, a1c, a1d, rfl, w1a, w1b, w1c, w1d⟩ := open_at4 (hval 1 35 v1 rfl rfl) h1
  obtain ⟨a2, rfl, _, _, w2⟩ := open_int Tryd.underlying3 (hval 2 3 v2 rfl rfl) h2
  clear hA0 hval0
  refine (walk a0 w0 a1a a1b a1c a1d w1a w1b w1c w1d a2 w2 W (of_laid hL)).mono fun e W' ⟨he, hg⟩ => ?_
  subst he
  exact ⟨_, rfl, ⟨_, _, _, [], p, [], hW', (trodAll_cons_mk (shut_bool Tryd.underlying4 _) trodAll_mk0), args_stay laidOut hg (by kernel_rfl) hAk hlt, rfl, hg.frame _, fun h => by cases h⟩⟩

theorem over : Rows.pteThereRow.holds Tryd.pinned (OpenSpec.ofChange Rows.pteThereSpec) :=
  OpenClaim.holds_of_wide 7 Tryd.f7 rfl rfl rfl rfl rfl rfl rfl ⟨rfl, rfl, rfl, rfl, rfl⟩ rfl rfl rfl rfl rfl (by kernel_rfl) Tryd.func7 (by kernel_rfl)
    (of_decide_eq_true (by kernel_rfl)) (by unfold Func.isWrapper; first | (rw [if_pos (by decide +kernel)]; kernel_rfl) | (rw [if_neg (by decide +kernel)]; exact ⟨rfl, rfl⟩))
    (fun os started H enc _ => lifted os started H enc)

theorem proved : Rows.PteThereCardSaid :=
  Claim7.holds_tied_plain_at .later [] [.data] true (true, "5129a5eca379c96864e158ea4b1044541d75a34f8fa9236a7f9e539890485962") false
    over (fun _ h => by cases h) (by kernel_rfl) (fun _ h => by cases h) pteThere_row_tie rfl ⟨rfl, rfl⟩ (by kernel_rfl) rfl
    (fun f fn hf hfn => by
      obtain rfl : f = 7 := Option.some.inj ((show Tryd.prog.funcNamed "demesne/demesnelaw03.PteThere" = some 7 by kernel_rfl).symm.trans hf) |>.symm
      obtain rfl : fn = Tryd.f7 := (Option.some.inj (Tryd.func7.symm.trans hfn)).symm
      exact ⟨by kernel_rfl, fun j t ht => by
        rw [Tryd.params7] at ht
        have hm : t ∈ [24, 35, 3] := by simpa using Array.mem_of_getElem? ht
        have hall : ([24, 35, 3].all fun u => !Tryd.prog.wantsStandIn u) = true := by kernel_rfl
        exact (show Tryd.prog.wantsStandIn t = false by simpa using List.all_eq_true.1 hall t hm)⟩)
    (by kernel_rfl)
#print axioms proved
end Go.Proofs.YtnjoiknfaibheaaDoor.pteThere
