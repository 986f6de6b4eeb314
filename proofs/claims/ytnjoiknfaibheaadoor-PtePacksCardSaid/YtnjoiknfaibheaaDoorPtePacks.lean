/- For any entry and number: entries are numbers by their bits, as the document says them bit by bit; the table of the flags' bits as the program lays it. -/
import Derived.Test.YtnjoiknfaibheaaDoorRows
import Derived.Test.YtnjoiknfaibheaaDoorCards
import Derived.Test.YtnjoiknfaibheaaDoorTie
import Derived.ProofKit
import Derived.OpenShut
import Derived.Stop.Joined
import Derived.SevenTiedAt
import Derived.Test.YtnjoiknfaibheaaDoorP11
namespace Go.Proofs.YtnjoiknfaibheaaDoor.ptePacks
open Go.ChangeShapes Go.WideShapes Go.ChangeAt Go.RowKit
set_option linter.unusedSimpArgs false
set_option linter.unusedVariables false

set_option maxHeartbeats 800000 in
theorem walk (a0p a0q a0u a0a a0d a0l a0g a0n : Bool) (a0f : Int) (w0 : (Lit.int .i64 a0f).wf = true) (a1 : Int) (w1 : (Lit.int .u64 a1).wf = true) (w : World) (ht : Tab w) :
    Calls Tryd.prog 3 #[.agg #[.bool a0p, .bool a0q, .bool a0u, .bool a0a, .bool a0d, .bool a0l, .bool a0g, .bool a0n, .int .i64 a0f], .int .u64 a1] w fun e w' => e = .returned (.bool true) ∧ Below w.heap.size w w' := by
  have u1 := wf_u64 w1
  have A := awake_c
  have T : Hid (Tab w) := ht
  obtain ⟨V, E, P, hc⟩ := pack_c a0p a0q a0u a0a a0d a0l a0g a0n a0f
  obtain ⟨y0, y1, y2, y3, y4, y5, y6, y7, y8, hy⟩ : ∃ (y0 y1 y2 y3 y4 y5 y6 y7 : Bool) (y8 : Int), unp a1 = .agg #[.bool y0, .bool y1, .bool y2, .bool y3, .bool y4, .bool y5, .bool y6, .bool y7, .int .i64 y8] := ⟨_, _, _, _, _, _, _, _, _, rfl⟩
  have U1 : Hid (∀ w : World, Tab w → Calls Tryd.prog 11 #[.int .u64 a1] w fun e w' => e = .returned (.agg #[.bool y0, .bool y1, .bool y2, .bool y3, .bool y4, .bool y5, .bool y6, .bool y7, .int .i64 y8]) ∧ Below w.heap.size w w') := fun w ht => by rw [← hy]; exact unpack_any a1 u1.1 u1.2 w ht
  have U2 : Hid (∀ w : World, Calls Tryd.prog 12 #[.int .u64 a1] w fun e w' => e = .returned (.agg #[.bool y0, .bool y1, .bool y2, .bool y3, .bool y4, .bool y5, .bool y6, .bool y7, .int .i64 y8]) ∧ Below w.heap.size w w') := fun w => by rw [← hy]; exact runpack_any a1 u1.1 u1.2 w
  clear hy w0 w1 ht u1
  rcases hc with ⟨f0, f1, rfl, hV, V0, V1⟩ | ⟨hf, rfl, rfl⟩
  · have P2 : Hid (∀ w : World, Calls Tryd.prog 13 #[.agg #[.bool a0p, .bool a0q, .bool a0u, .bool a0a, .bool a0d, .bool a0l, .bool a0g, .bool a0n, .int .i64 a0f]] w fun e w' => e = .returned (.int .u64 V) ∧ Below w.heap.size w w') := fun w => by rw [hV]; exact rpack_ok a0p a0q a0u a0a a0d a0l a0g a0n a0f f0 f1 w
    clear hV V0 V1
    go_enter Tryd.func3, Tryd.ntmps3
    go_wp2_with fail
    refine (P.out _ (T.out.keep (by first | exact Below.refl _ _ | exact below_new (Below.refl _ _) _ | exact below_new2 (Below.refl _ _) _ _ | exact below_new (below_new2 (Below.refl _ _) _ _) _))).mono ?_
    rintro e w1 ⟨rfl, h1⟩
    have ze1 : w.heap.size < w1.heap.size := Nat.lt_of_lt_of_le (by first | (simp; done) | (simp; omega)) h1.size
    have ce1_0 : w1.cell? ⟨w.heap.size, 0, none⟩ = some (.bool a0p) := cell_next h1 (by first | (simp; done) | (simp; omega)) (by first | (simp; done))
    have ce1_1 : w1.cell? ⟨w.heap.size, 1, none⟩ = some (.bool a0q) := cell_next h1 (by first | (simp; done) | (simp; omega)) (by first | (simp; done))
    have ce1_2 : w1.cell? ⟨w.heap.size, 2, none⟩ = some (.bool a0u) := cell_next h1 (by first | (simp; done) | (simp; omega)) (by first | (simp; done))
    have ce1_3 : w1.cell? ⟨w.heap.size, 3, none⟩ = some (.bool a0a) := cell_next h1 (by first | (simp; done) | (simp; omega)) (by first | (simp; done))
    have ce1_4 : w1.cell? ⟨w.heap.size, 4, none⟩ = some (.bool a0d) := cell_next h1 (by first | (simp; done) | (simp; omega)) (by first | (simp; done))
    have ce1_5 : w1.cell? ⟨w.heap.size, 5, none⟩ = some (.bool a0l) := cell_next h1 (by first | (simp; done) | (simp; omega)) (by first | (simp; done))
    have ce1_6 : w1.cell? ⟨w.heap.size, 6, none⟩ = some (.bool a0g) := cell_next h1 (by first | (simp; done) | (simp; omega)) (by first | (simp; done))
    have ce1_7 : w1.cell? ⟨w.heap.size, 7, none⟩ = some (.bool a0n) := cell_next h1 (by first | (simp; done) | (simp; omega)) (by first | (simp; done))
    have ce1_8 : w1.cell? ⟨w.heap.size, 8, none⟩ = some (.int .i64 a0f) := cell_next h1 (by first | (simp; done) | (simp; omega)) (by first | (simp; done))
    have B1 : Hid (Below w.heap.size w w1) := below_then (by first | exact Below.refl _ _ | exact below_new (Below.refl _ _) _ | exact below_new2 (Below.refl _ _) _ _ | exact below_new (below_new2 (Below.refl _ _) _ _) _) h1
    clear h1
    go_wp2_with fail
    refine (A.out _ (T.out.keep (by first | exact B1.out | exact below_new (B1.out) _ | exact below_new2 (B1.out) _ _ | exact below_new (below_new2 (B1.out) _ _) _))).mono ?_
    rintro e w2 ⟨rfl, h2⟩
    have ze2 : w.heap.size < w2.heap.size := Nat.lt_of_lt_of_le (by first | exact ze1 | (rw [World.size_alloc]; omega) | (simp; done) | (simp; omega)) h2.size
    have ce2_0 : w2.cell? ⟨w.heap.size, 0, none⟩ = some (.bool a0p) := cell_next h2 (by first | exact ze1 | (rw [World.size_alloc]; omega) | (simp; done) | (simp; omega)) (by first | exact ce1_0 | exact (cell_old ze1 _).trans ce1_0 | (simp; done))
    have ce2_1 : w2.cell? ⟨w.heap.size, 1, none⟩ = some (.bool a0q) := cell_next h2 (by first | exact ze1 | (rw [World.size_alloc]; omega) | (simp; done) | (simp; omega)) (by first | exact ce1_1 | exact (cell_old ze1 _).trans ce1_1 | (simp; done))
    have ce2_2 : w2.cell? ⟨w.heap.size, 2, none⟩ = some (.bool a0u) := cell_next h2 (by first | exact ze1 | (rw [World.size_alloc]; omega) | (simp; done) | (simp; omega)) (by first | exact ce1_2 | exact (cell_old ze1 _).trans ce1_2 | (simp; done))
    have ce2_3 : w2.cell? ⟨w.heap.size, 3, none⟩ = some (.bool a0a) := cell_next h2 (by first | exact ze1 | (rw [World.size_alloc]; omega) | (simp; done) | (simp; omega)) (by first | exact ce1_3 | exact (cell_old ze1 _).trans ce1_3 | (simp; done))
    have ce2_4 : w2.cell? ⟨w.heap.size, 4, none⟩ = some (.bool a0d) := cell_next h2 (by first | exact ze1 | (rw [World.size_alloc]; omega) | (simp; done) | (simp; omega)) (by first | exact ce1_4 | exact (cell_old ze1 _).trans ce1_4 | (simp; done))
    have ce2_5 : w2.cell? ⟨w.heap.size, 5, none⟩ = some (.bool a0l) := cell_next h2 (by first | exact ze1 | (rw [World.size_alloc]; omega) | (simp; done) | (simp; omega)) (by first | exact ce1_5 | exact (cell_old ze1 _).trans ce1_5 | (simp; done))
    have ce2_6 : w2.cell? ⟨w.heap.size, 6, none⟩ = some (.bool a0g) := cell_next h2 (by first | exact ze1 | (rw [World.size_alloc]; omega) | (simp; done) | (simp; omega)) (by first | exact ce1_6 | exact (cell_old ze1 _).trans ce1_6 | (simp; done))
    have ce2_7 : w2.cell? ⟨w.heap.size, 7, none⟩ = some (.bool a0n) := cell_next h2 (by first | exact ze1 | (rw [World.size_alloc]; omega) | (simp; done) | (simp; omega)) (by first | exact ce1_7 | exact (cell_old ze1 _).trans ce1_7 | (simp; done))
    have ce2_8 : w2.cell? ⟨w.heap.size, 8, none⟩ = some (.int .i64 a0f) := cell_next h2 (by first | exact ze1 | (rw [World.size_alloc]; omega) | (simp; done) | (simp; omega)) (by first | exact ce1_8 | exact (cell_old ze1 _).trans ce1_8 | (simp; done))
    clear ze1 ce1_0 ce1_1 ce1_2 ce1_3 ce1_4 ce1_5 ce1_6 ce1_7 ce1_8
    have B2 : Hid (Below w.heap.size w w2) := below_then (by first | exact B1.out | exact below_new (B1.out) _ | exact below_new2 (B1.out) _ _ | exact below_new (below_new2 (B1.out) _ _) _) h2
    clear h2
    go_wp2_with fail
    refine (U1.out _ (T.out.keep (by first | exact B2.out | exact below_new (B2.out) _ | exact below_new2 (B2.out) _ _ | exact below_new (below_new2 (B2.out) _ _) _))).mono ?_
    rintro e w3 ⟨rfl, h3⟩
    have ze3 : w.heap.size < w3.heap.size := Nat.lt_of_lt_of_le (by first | exact ze2 | (rw [World.size_alloc]; omega) | (simp; done) | (simp; omega)) h3.size
    have ce3_0 : w3.cell? ⟨w.heap.size, 0, none⟩ = some (.bool a0p) := cell_next h3 (by first | exact ze2 | (rw [World.size_alloc]; omega) | (simp; done) | (simp; omega)) (by first | exact ce2_0 | exact (cell_old ze2 _).trans ce2_0 | (simp; done))
    have ce3_1 : w3.cell? ⟨w.heap.size, 1, none⟩ = some (.bool a0q) := cell_next h3 (by first | exact ze2 | (rw [World.size_alloc]; omega) | (simp; done) | (simp; omega)) (by first | exact ce2_1 | exact (cell_old ze2 _).trans ce2_1 | (simp; done))
    have ce3_2 : w3.cell? ⟨w.heap.size, 2, none⟩ = some (.bool a0u) := cell_next h3 (by first | exact ze2 | (rw [World.size_alloc]; omega) | (simp; done) | (simp; omega)) (by first | exact ce2_2 | exact (cell_old ze2 _).trans ce2_2 | (simp; done))
    have ce3_3 : w3.cell? ⟨w.heap.size, 3, none⟩ = some (.bool a0a) := cell_next h3 (by first | exact ze2 | (rw [World.size_alloc]; omega) | (simp; done) | (simp; omega)) (by first | exact ce2_3 | exact (cell_old ze2 _).trans ce2_3 | (simp; done))
    have ce3_4 : w3.cell? ⟨w.heap.size, 4, none⟩ = some (.bool a0d) := cell_next h3 (by first | exact ze2 | (rw [World.size_alloc]; omega) | (simp; done) | (simp; omega)) (by first | exact ce2_4 | exact (cell_old ze2 _).trans ce2_4 | (simp; done))
    have ce3_5 : w3.cell? ⟨w.heap.size, 5, none⟩ = some (.bool a0l) := cell_next h3 (by first | exact ze2 | (rw [World.size_alloc]; omega) | (simp; done) | (simp; omega)) (by first | exact ce2_5 | exact (cell_old ze2 _).trans ce2_5 | (simp; done))
    have ce3_6 : w3.cell? ⟨w.heap.size, 6, none⟩ = some (.bool a0g) := cell_next h3 (by first | exact ze2 | (rw [World.size_alloc]; omega) | (simp; done) | (simp; omega)) (by first | exact ce2_6 | exact (cell_old ze2 _).trans ce2_6 | (simp; done))
    have ce3_7 : w3.cell? ⟨w.heap.size, 7, none⟩ = some (.bool a0n) := cell_next h3 (by first | exact ze2 | (rw [World.size_alloc]; omega) | (simp; done) | (simp; omega)) (by first | exact ce2_7 | exact (cell_old ze2 _).trans ce2_7 | (simp; done))
    have ce3_8 : w3.cell? ⟨w.heap.size, 8, none⟩ = some (.int .i64 a0f) := cell_next h3 (by first | exact ze2 | (rw [World.size_alloc]; omega) | (simp; done) | (simp; omega)) (by first | exact ce2_8 | exact (cell_old ze2 _).trans ce2_8 | (simp; done))
    clear ze2 ce2_0 ce2_1 ce2_2 ce2_3 ce2_4 ce2_5 ce2_6 ce2_7 ce2_8
    have B3 : Hid (Below w.heap.size w w3) := below_then (by first | exact B2.out | exact below_new (B2.out) _ | exact below_new2 (B2.out) _ _ | exact below_new (below_new2 (B2.out) _ _) _) h3
    clear h3
    go_wp2_with fail
    refine (U2.out _).mono ?_
    rintro e w4 ⟨rfl, h4⟩
    have ze4 : w.heap.size < w4.heap.size := Nat.lt_of_lt_of_le (by first | exact ze3 | (rw [World.size_alloc]; omega) | (simp; done) | (simp; omega)) h4.size
    have ce4_0 : w4.cell? ⟨w.heap.size, 0, none⟩ = some (.bool a0p) := cell_next h4 (by first | exact ze3 | (rw [World.size_alloc]; omega) | (simp; done) | (simp; omega)) (by first | exact ce3_0 | exact (cell_old ze3 _).trans ce3_0 | (simp; done))
    have ce4_1 : w4.cell? ⟨w.heap.size, 1, none⟩ = some (.bool a0q) := cell_next h4 (by first | exact ze3 | (rw [World.size_alloc]; omega) | (simp; done) | (simp; omega)) (by first | exact ce3_1 | exact (cell_old ze3 _).trans ce3_1 | (simp; done))
    have ce4_2 : w4.cell? ⟨w.heap.size, 2, none⟩ = some (.bool a0u) := cell_next h4 (by first | exact ze3 | (rw [World.size_alloc]; omega) | (simp; done) | (simp; omega)) (by first | exact ce3_2 | exact (cell_old ze3 _).trans ce3_2 | (simp; done))
    have ce4_3 : w4.cell? ⟨w.heap.size, 3, none⟩ = some (.bool a0a) := cell_next h4 (by first | exact ze3 | (rw [World.size_alloc]; omega) | (simp; done) | (simp; omega)) (by first | exact ce3_3 | exact (cell_old ze3 _).trans ce3_3 | (simp; done))
    have ce4_4 : w4.cell? ⟨w.heap.size, 4, none⟩ = some (.bool a0d) := cell_next h4 (by first | exact ze3 | (rw [World.size_alloc]; omega) | (simp; done) | (simp; omega)) (by first | exact ce3_4 | exact (cell_old ze3 _).trans ce3_4 | (simp; done))
    have ce4_5 : w4.cell? ⟨w.heap.size, 5, none⟩ = some (.bool a0l) := cell_next h4 (by first | exact ze3 | (rw [World.size_alloc]; omega) | (simp; done) | (simp; omega)) (by first | exact ce3_5 | exact (cell_old ze3 _).trans ce3_5 | (simp; done))
    have ce4_6 : w4.cell? ⟨w.heap.size, 6, none⟩ = some (.bool a0g) := cell_next h4 (by first | exact ze3 | (rw [World.size_alloc]; omega) | (simp; done) | (simp; omega)) (by first | exact ce3_6 | exact (cell_old ze3 _).trans ce3_6 | (simp; done))
    have ce4_7 : w4.cell? ⟨w.heap.size, 7, none⟩ = some (.bool a0n) := cell_next h4 (by first | exact ze3 | (rw [World.size_alloc]; omega) | (simp; done) | (simp; omega)) (by first | exact ce3_7 | exact (cell_old ze3 _).trans ce3_7 | (simp; done))
    have ce4_8 : w4.cell? ⟨w.heap.size, 8, none⟩ = some (.int .i64 a0f) := cell_next h4 (by first | exact ze3 | (rw [World.size_alloc]; omega) | (simp; done) | (simp; omega)) (by first | exact ce3_8 | exact (cell_old ze3 _).trans ce3_8 | (simp; done))
    clear ze3 ce3_0 ce3_1 ce3_2 ce3_3 ce3_4 ce3_5 ce3_6 ce3_7 ce3_8
    have B4 : Hid (Below w.heap.size w w4) := below_then (by first | exact B3.out | exact below_new (B3.out) _ | exact below_new2 (B3.out) _ _ | exact below_new (below_new2 (B3.out) _ _) _) h4
    clear h4
    go_wp2_with fail
    refine (P2.out _).mono ?_
    rintro e w5 ⟨rfl, h5⟩
    have B5 : Hid (Below w.heap.size w w5) := below_then (by first | exact B4.out | exact below_new (B4.out) _ | exact below_new2 (B4.out) _ _ | exact below_new (below_new2 (B4.out) _ _) _) h5
    clear h5
    go_wp2_with fail
    go_ret
    exact ⟨by simp, by first | exact B5.out | exact below_new (B5.out) _ | exact below_new2 (B5.out) _ _ | exact below_new (below_new2 (B5.out) _ _) _⟩
  · by_cases h0 : a0f < 0
    · clear hf
      go_enter Tryd.func3, Tryd.ntmps3
      go_wp2_with fail
      refine (P.out _ (T.out.keep (by first | exact Below.refl _ _ | exact below_new (Below.refl _ _) _ | exact below_new2 (Below.refl _ _) _ _ | exact below_new (below_new2 (Below.refl _ _) _ _) _))).mono ?_
      rintro e w1 ⟨rfl, h1⟩
      have ze1 : w.heap.size < w1.heap.size := Nat.lt_of_lt_of_le (by first | (simp; done) | (simp; omega)) h1.size
      have ce1_0 : w1.cell? ⟨w.heap.size, 0, none⟩ = some (.bool a0p) := cell_next h1 (by first | (simp; done) | (simp; omega)) (by first | (simp; done))
      have ce1_1 : w1.cell? ⟨w.heap.size, 1, none⟩ = some (.bool a0q) := cell_next h1 (by first | (simp; done) | (simp; omega)) (by first | (simp; done))
      have ce1_2 : w1.cell? ⟨w.heap.size, 2, none⟩ = some (.bool a0u) := cell_next h1 (by first | (simp; done) | (simp; omega)) (by first | (simp; done))
      have ce1_3 : w1.cell? ⟨w.heap.size, 3, none⟩ = some (.bool a0a) := cell_next h1 (by first | (simp; done) | (simp; omega)) (by first | (simp; done))
      have ce1_4 : w1.cell? ⟨w.heap.size, 4, none⟩ = some (.bool a0d) := cell_next h1 (by first | (simp; done) | (simp; omega)) (by first | (simp; done))
      have ce1_5 : w1.cell? ⟨w.heap.size, 5, none⟩ = some (.bool a0l) := cell_next h1 (by first | (simp; done) | (simp; omega)) (by first | (simp; done))
      have ce1_6 : w1.cell? ⟨w.heap.size, 6, none⟩ = some (.bool a0g) := cell_next h1 (by first | (simp; done) | (simp; omega)) (by first | (simp; done))
      have ce1_7 : w1.cell? ⟨w.heap.size, 7, none⟩ = some (.bool a0n) := cell_next h1 (by first | (simp; done) | (simp; omega)) (by first | (simp; done))
      have ce1_8 : w1.cell? ⟨w.heap.size, 8, none⟩ = some (.int .i64 a0f) := cell_next h1 (by first | (simp; done) | (simp; omega)) (by first | (simp; done))
      have B1 : Hid (Below w.heap.size w w1) := below_then (by first | exact Below.refl _ _ | exact below_new (Below.refl _ _) _ | exact below_new2 (Below.refl _ _) _ _ | exact below_new (below_new2 (Below.refl _ _) _ _) _) h1
      clear h1
      go_wp2_with fail
      refine (A.out _ (T.out.keep (by first | exact B1.out | exact below_new (B1.out) _ | exact below_new2 (B1.out) _ _ | exact below_new (below_new2 (B1.out) _ _) _))).mono ?_
      rintro e w2 ⟨rfl, h2⟩
      have ze2 : w.heap.size < w2.heap.size := Nat.lt_of_lt_of_le (by first | exact ze1 | (rw [World.size_alloc]; omega) | (simp; done) | (simp; omega)) h2.size
      have ce2_0 : w2.cell? ⟨w.heap.size, 0, none⟩ = some (.bool a0p) := cell_next h2 (by first | exact ze1 | (rw [World.size_alloc]; omega) | (simp; done) | (simp; omega)) (by first | exact ce1_0 | exact (cell_old ze1 _).trans ce1_0 | (simp; done))
      have ce2_1 : w2.cell? ⟨w.heap.size, 1, none⟩ = some (.bool a0q) := cell_next h2 (by first | exact ze1 | (rw [World.size_alloc]; omega) | (simp; done) | (simp; omega)) (by first | exact ce1_1 | exact (cell_old ze1 _).trans ce1_1 | (simp; done))
      have ce2_2 : w2.cell? ⟨w.heap.size, 2, none⟩ = some (.bool a0u) := cell_next h2 (by first | exact ze1 | (rw [World.size_alloc]; omega) | (simp; done) | (simp; omega)) (by first | exact ce1_2 | exact (cell_old ze1 _).trans ce1_2 | (simp; done))
      have ce2_3 : w2.cell? ⟨w.heap.size, 3, none⟩ = some (.bool a0a) := cell_next h2 (by first | exact ze1 | (rw [World.size_alloc]; omega) | (simp; done) | (simp; omega)) (by first | exact ce1_3 | exact (cell_old ze1 _).trans ce1_3 | (simp; done))
      have ce2_4 : w2.cell? ⟨w.heap.size, 4, none⟩ = some (.bool a0d) := cell_next h2 (by first | exact ze1 | (rw [World.size_alloc]; omega) | (simp; done) | (simp; omega)) (by first | exact ce1_4 | exact (cell_old ze1 _).trans ce1_4 | (simp; done))
      have ce2_5 : w2.cell? ⟨w.heap.size, 5, none⟩ = some (.bool a0l) := cell_next h2 (by first | exact ze1 | (rw [World.size_alloc]; omega) | (simp; done) | (simp; omega)) (by first | exact ce1_5 | exact (cell_old ze1 _).trans ce1_5 | (simp; done))
      have ce2_6 : w2.cell? ⟨w.heap.size, 6, none⟩ = some (.bool a0g) := cell_next h2 (by first | exact ze1 | (rw [World.size_alloc]; omega) | (simp; done) | (simp; omega)) (by first | exact ce1_6 | exact (cell_old ze1 _).trans ce1_6 | (simp; done))
      have ce2_7 : w2.cell? ⟨w.heap.size, 7, none⟩ = some (.bool a0n) := cell_next h2 (by first | exact ze1 | (rw [World.size_alloc]; omega) | (simp; done) | (simp; omega)) (by first | exact ce1_7 | exact (cell_old ze1 _).trans ce1_7 | (simp; done))
      have ce2_8 : w2.cell? ⟨w.heap.size, 8, none⟩ = some (.int .i64 a0f) := cell_next h2 (by first | exact ze1 | (rw [World.size_alloc]; omega) | (simp; done) | (simp; omega)) (by first | exact ce1_8 | exact (cell_old ze1 _).trans ce1_8 | (simp; done))
      clear ze1 ce1_0 ce1_1 ce1_2 ce1_3 ce1_4 ce1_5 ce1_6 ce1_7 ce1_8
      have B2 : Hid (Below w.heap.size w w2) := below_then (by first | exact B1.out | exact below_new (B1.out) _ | exact below_new2 (B1.out) _ _ | exact below_new (below_new2 (B1.out) _ _) _) h2
      clear h2
      go_wp2_with fail
      refine (U1.out _ (T.out.keep (by first | exact B2.out | exact below_new (B2.out) _ | exact below_new2 (B2.out) _ _ | exact below_new (below_new2 (B2.out) _ _) _))).mono ?_
      rintro e w3 ⟨rfl, h3⟩
      have ze3 : w.heap.size < w3.heap.size := Nat.lt_of_lt_of_le (by first | exact ze2 | (rw [World.size_alloc]; omega) | (simp; done) | (simp; omega)) h3.size
      have ce3_0 : w3.cell? ⟨w.heap.size, 0, none⟩ = some (.bool a0p) := cell_next h3 (by first | exact ze2 | (rw [World.size_alloc]; omega) | (simp; done) | (simp; omega)) (by first | exact ce2_0 | exact (cell_old ze2 _).trans ce2_0 | (simp; done))
      have ce3_1 : w3.cell? ⟨w.heap.size, 1, none⟩ = some (.bool a0q) := cell_next h3 (by first | exact ze2 | (rw [World.size_alloc]; omega) | (simp; done) | (simp; omega)) (by first | exact ce2_1 | exact (cell_old ze2 _).trans ce2_1 | (simp; done))
      have ce3_2 : w3.cell? ⟨w.heap.size, 2, none⟩ = some (.bool a0u) := cell_next h3 (by first | exact ze2 | (rw [World.size_alloc]; omega) | (simp; done) | (simp; omega)) (by first | exact ce2_2 | exact (cell_old ze2 _).trans ce2_2 | (simp; done))
      have ce3_3 : w3.cell? ⟨w.heap.size, 3, none⟩ = some (.bool a0a) := cell_next h3 (by first | exact ze2 | (rw [World.size_alloc]; omega) | (simp; done) | (simp; omega)) (by first | exact ce2_3 | exact (cell_old ze2 _).trans ce2_3 | (simp; done))
      have ce3_4 : w3.cell? ⟨w.heap.size, 4, none⟩ = some (.bool a0d) := cell_next h3 (by first | exact ze2 | (rw [World.size_alloc]; omega) | (simp; done) | (simp; omega)) (by first | exact ce2_4 | exact (cell_old ze2 _).trans ce2_4 | (simp; done))
      have ce3_5 : w3.cell? ⟨w.heap.size, 5, none⟩ = some (.bool a0l) := cell_next h3 (by first | exact ze2 | (rw [World.size_alloc]; omega) | (simp; done) | (simp; omega)) (by first | exact ce2_5 | exact (cell_old ze2 _).trans ce2_5 | (simp; done))
      have ce3_6 : w3.cell? ⟨w.heap.size, 6, none⟩ = some (.bool a0g) := cell_next h3 (by first | exact ze2 | (rw [World.size_alloc]; omega) | (simp; done) | (simp; omega)) (by first | exact ce2_6 | exact (cell_old ze2 _).trans ce2_6 | (simp; done))
      have ce3_7 : w3.cell? ⟨w.heap.size, 7, none⟩ = some (.bool a0n) := cell_next h3 (by first | exact ze2 | (rw [World.size_alloc]; omega) | (simp; done) | (simp; omega)) (by first | exact ce2_7 | exact (cell_old ze2 _).trans ce2_7 | (simp; done))
      have ce3_8 : w3.cell? ⟨w.heap.size, 8, none⟩ = some (.int .i64 a0f) := cell_next h3 (by first | exact ze2 | (rw [World.size_alloc]; omega) | (simp; done) | (simp; omega)) (by first | exact ce2_8 | exact (cell_old ze2 _).trans ce2_8 | (simp; done))
      clear ze2 ce2_0 ce2_1 ce2_2 ce2_3 ce2_4 ce2_5 ce2_6 ce2_7 ce2_8
      have B3 : Hid (Below w.heap.size w w3) := below_then (by first | exact B2.out | exact below_new (B2.out) _ | exact below_new2 (B2.out) _ _ | exact below_new (below_new2 (B2.out) _ _) _) h3
      clear h3
      go_wp2_with fail
      refine (U2.out _).mono ?_
      rintro e w4 ⟨rfl, h4⟩
      have ze4 : w.heap.size < w4.heap.size := Nat.lt_of_lt_of_le (by first | exact ze3 | (rw [World.size_alloc]; omega) | (simp; done) | (simp; omega)) h4.size
      have ce4_0 : w4.cell? ⟨w.heap.size, 0, none⟩ = some (.bool a0p) := cell_next h4 (by first | exact ze3 | (rw [World.size_alloc]; omega) | (simp; done) | (simp; omega)) (by first | exact ce3_0 | exact (cell_old ze3 _).trans ce3_0 | (simp; done))
      have ce4_1 : w4.cell? ⟨w.heap.size, 1, none⟩ = some (.bool a0q) := cell_next h4 (by first | exact ze3 | (rw [World.size_alloc]; omega) | (simp; done) | (simp; omega)) (by first | exact ce3_1 | exact (cell_old ze3 _).trans ce3_1 | (simp; done))
      have ce4_2 : w4.cell? ⟨w.heap.size, 2, none⟩ = some (.bool a0u) := cell_next h4 (by first | exact ze3 | (rw [World.size_alloc]; omega) | (simp; done) | (simp; omega)) (by first | exact ce3_2 | exact (cell_old ze3 _).trans ce3_2 | (simp; done))
      have ce4_3 : w4.cell? ⟨w.heap.size, 3, none⟩ = some (.bool a0a) := cell_next h4 (by first | exact ze3 | (rw [World.size_alloc]; omega) | (simp; done) | (simp; omega)) (by first | exact ce3_3 | exact (cell_old ze3 _).trans ce3_3 | (simp; done))
      have ce4_4 : w4.cell? ⟨w.heap.size, 4, none⟩ = some (.bool a0d) := cell_next h4 (by first | exact ze3 | (rw [World.size_alloc]; omega) | (simp; done) | (simp; omega)) (by first | exact ce3_4 | exact (cell_old ze3 _).trans ce3_4 | (simp; done))
      have ce4_5 : w4.cell? ⟨w.heap.size, 5, none⟩ = some (.bool a0l) := cell_next h4 (by first | exact ze3 | (rw [World.size_alloc]; omega) | (simp; done) | (simp; omega)) (by first | exact ce3_5 | exact (cell_old ze3 _).trans ce3_5 | (simp; done))
      have ce4_6 : w4.cell? ⟨w.heap.size, 6, none⟩ = some (.bool a0g) := cell_next h4 (by first | exact ze3 | (rw [World.size_alloc]; omega) | (simp; done) | (simp; omega)) (by first | exact ce3_6 | exact (cell_old ze3 _).trans ce3_6 | (simp; done))
      have ce4_7 : w4.cell? ⟨w.heap.size, 7, none⟩ = some (.bool a0n) := cell_next h4 (by first | exact ze3 | (rw [World.size_alloc]; omega) | (simp; done) | (simp; omega)) (by first | exact ce3_7 | exact (cell_old ze3 _).trans ce3_7 | (simp; done))
      have ce4_8 : w4.cell? ⟨w.heap.size, 8, none⟩ = some (.int .i64 a0f) := cell_next h4 (by first | exact ze3 | (rw [World.size_alloc]; omega) | (simp; done) | (simp; omega)) (by first | exact ce3_8 | exact (cell_old ze3 _).trans ce3_8 | (simp; done))
      clear ze3 ce3_0 ce3_1 ce3_2 ce3_3 ce3_4 ce3_5 ce3_6 ce3_7 ce3_8
      have B4 : Hid (Below w.heap.size w w4) := below_then (by first | exact B3.out | exact below_new (B3.out) _ | exact below_new2 (B3.out) _ _ | exact below_new (below_new2 (B3.out) _ _) _) h4
      clear h4
      go_wp2_with fail
      go_ret
      exact ⟨rfl, by first | exact B4.out | exact below_new (B4.out) _ | exact below_new2 (B4.out) _ _ | exact below_new (below_new2 (B4.out) _ _) _⟩
    · have h1 : 1048576 ≤ a0f := by omega
      clear hf h0
      go_enter Tryd.func3, Tryd.ntmps3
      go_wp2_with fail
      refine (P.out _ (T.out.keep (by first | exact Below.refl _ _ | exact below_new (Below.refl _ _) _ | exact below_new2 (Below.refl _ _) _ _ | exact below_new (below_new2 (Below.refl _ _) _ _) _))).mono ?_
      rintro e w1 ⟨rfl, h1⟩
      have ze1 : w.heap.size < w1.heap.size := Nat.lt_of_lt_of_le (by first | (simp; done) | (simp; omega)) h1.size
      have ce1_0 : w1.cell? ⟨w.heap.size, 0, none⟩ = some (.bool a0p) := cell_next h1 (by first | (simp; done) | (simp; omega)) (by first | (simp; done))
      have ce1_1 : w1.cell? ⟨w.heap.size, 1, none⟩ = some (.bool a0q) := cell_next h1 (by first | (simp; done) | (simp; omega)) (by first | (simp; done))
      have ce1_2 : w1.cell? ⟨w.heap.size, 2, none⟩ = some (.bool a0u) := cell_next h1 (by first | (simp; done) | (simp; omega)) (by first | (simp; done))
      have ce1_3 : w1.cell? ⟨w.heap.size, 3, none⟩ = some (.bool a0a) := cell_next h1 (by first | (simp; done) | (simp; omega)) (by first | (simp; done))
      have ce1_4 : w1.cell? ⟨w.heap.size, 4, none⟩ = some (.bool a0d) := cell_next h1 (by first | (simp; done) | (simp; omega)) (by first | (simp; done))
      have ce1_5 : w1.cell? ⟨w.heap.size, 5, none⟩ = some (.bool a0l) := cell_next h1 (by first | (simp; done) | (simp; omega)) (by first | (simp; done))
      have ce1_6 : w1.cell? ⟨w.heap.size, 6, none⟩ = some (.bool a0g) := cell_next h1 (by first | (simp; done) | (simp; omega)) (by first | (simp; done))
      have ce1_7 : w1.cell? ⟨w.heap.size, 7, none⟩ = some (.bool a0n) := cell_next h1 (by first | (simp; done) | (simp; omega)) (by first | (simp; done))
      have ce1_8 : w1.cell? ⟨w.heap.size, 8, none⟩ = some (.int .i64 a0f) := cell_next h1 (by first | (simp; done) | (simp; omega)) (by first | (simp; done))
      have B1 : Hid (Below w.heap.size w w1) := below_then (by first | exact Below.refl _ _ | exact below_new (Below.refl _ _) _ | exact below_new2 (Below.refl _ _) _ _ | exact below_new (below_new2 (Below.refl _ _) _ _) _) h1
      clear h1
      go_wp2_with fail
      refine (A.out _ (T.out.keep (by first | exact B1.out | exact below_new (B1.out) _ | exact below_new2 (B1.out) _ _ | exact below_new (below_new2 (B1.out) _ _) _))).mono ?_
      rintro e w2 ⟨rfl, h2⟩
      have ze2 : w.heap.size < w2.heap.size := Nat.lt_of_lt_of_le (by first | exact ze1 | (rw [World.size_alloc]; omega) | (simp; done) | (simp; omega)) h2.size
      have ce2_0 : w2.cell? ⟨w.heap.size, 0, none⟩ = some (.bool a0p) := cell_next h2 (by first | exact ze1 | (rw [World.size_alloc]; omega) | (simp; done) | (simp; omega)) (by first | exact ce1_0 | exact (cell_old ze1 _).trans ce1_0 | (simp; done))
      have ce2_1 : w2.cell? ⟨w.heap.size, 1, none⟩ = some (.bool a0q) := cell_next h2 (by first | exact ze1 | (rw [World.size_alloc]; omega) | (simp; done) | (simp; omega)) (by first | exact ce1_1 | exact (cell_old ze1 _).trans ce1_1 | (simp; done))
      have ce2_2 : w2.cell? ⟨w.heap.size, 2, none⟩ = some (.bool a0u) := cell_next h2 (by first | exact ze1 | (rw [World.size_alloc]; omega) | (simp; done) | (simp; omega)) (by first | exact ce1_2 | exact (cell_old ze1 _).trans ce1_2 | (simp; done))
      have ce2_3 : w2.cell? ⟨w.heap.size, 3, none⟩ = some (.bool a0a) := cell_next h2 (by first | exact ze1 | (rw [World.size_alloc]; omega) | (simp; done) | (simp; omega)) (by first | exact ce1_3 | exact (cell_old ze1 _).trans ce1_3 | (simp; done))
      have ce2_4 : w2.cell? ⟨w.heap.size, 4, none⟩ = some (.bool a0d) := cell_next h2 (by first | exact ze1 | (rw [World.size_alloc]; omega) | (simp; done) | (simp; omega)) (by first | exact ce1_4 | exact (cell_old ze1 _).trans ce1_4 | (simp; done))
      have ce2_5 : w2.cell? ⟨w.heap.size, 5, none⟩ = some (.bool a0l) := cell_next h2 (by first | exact ze1 | (rw [World.size_alloc]; omega) | (simp; done) | (simp; omega)) (by first | exact ce1_5 | exact (cell_old ze1 _).trans ce1_5 | (simp; done))
      have ce2_6 : w2.cell? ⟨w.heap.size, 6, none⟩ = some (.bool a0g) := cell_next h2 (by first | exact ze1 | (rw [World.size_alloc]; omega) | (simp; done) | (simp; omega)) (by first | exact ce1_6 | exact (cell_old ze1 _).trans ce1_6 | (simp; done))
      have ce2_7 : w2.cell? ⟨w.heap.size, 7, none⟩ = some (.bool a0n) := cell_next h2 (by first | exact ze1 | (rw [World.size_alloc]; omega) | (simp; done) | (simp; omega)) (by first | exact ce1_7 | exact (cell_old ze1 _).trans ce1_7 | (simp; done))
      have ce2_8 : w2.cell? ⟨w.heap.size, 8, none⟩ = some (.int .i64 a0f) := cell_next h2 (by first | exact ze1 | (rw [World.size_alloc]; omega) | (simp; done) | (simp; omega)) (by first | exact ce1_8 | exact (cell_old ze1 _).trans ce1_8 | (simp; done))
      clear ze1 ce1_0 ce1_1 ce1_2 ce1_3 ce1_4 ce1_5 ce1_6 ce1_7 ce1_8
      have B2 : Hid (Below w.heap.size w w2) := below_then (by first | exact B1.out | exact below_new (B1.out) _ | exact below_new2 (B1.out) _ _ | exact below_new (below_new2 (B1.out) _ _) _) h2
      clear h2
      go_wp2_with fail
      refine (U1.out _ (T.out.keep (by first | exact B2.out | exact below_new (B2.out) _ | exact below_new2 (B2.out) _ _ | exact below_new (below_new2 (B2.out) _ _) _))).mono ?_
      rintro e w3 ⟨rfl, h3⟩
      have ze3 : w.heap.size < w3.heap.size := Nat.lt_of_lt_of_le (by first | exact ze2 | (rw [World.size_alloc]; omega) | (simp; done) | (simp; omega)) h3.size
      have ce3_0 : w3.cell? ⟨w.heap.size, 0, none⟩ = some (.bool a0p) := cell_next h3 (by first | exact ze2 | (rw [World.size_alloc]; omega) | (simp; done) | (simp; omega)) (by first | exact ce2_0 | exact (cell_old ze2 _).trans ce2_0 | (simp; done))
      have ce3_1 : w3.cell? ⟨w.heap.size, 1, none⟩ = some (.bool a0q) := cell_next h3 (by first | exact ze2 | (rw [World.size_alloc]; omega) | (simp; done) | (simp; omega)) (by first | exact ce2_1 | exact (cell_old ze2 _).trans ce2_1 | (simp; done))
      have ce3_2 : w3.cell? ⟨w.heap.size, 2, none⟩ = some (.bool a0u) := cell_next h3 (by first | exact ze2 | (rw [World.size_alloc]; omega) | (simp; done) | (simp; omega)) (by first | exact ce2_2 | exact (cell_old ze2 _).trans ce2_2 | (simp; done))
      have ce3_3 : w3.cell? ⟨w.heap.size, 3, none⟩ = some (.bool a0a) := cell_next h3 (by first | exact ze2 | (rw [World.size_alloc]; omega) | (simp; done) | (simp; omega)) (by first | exact ce2_3 | exact (cell_old ze2 _).trans ce2_3 | (simp; done))
      have ce3_4 : w3.cell? ⟨w.heap.size, 4, none⟩ = some (.bool a0d) := cell_next h3 (by first | exact ze2 | (rw [World.size_alloc]; omega) | (simp; done) | (simp; omega)) (by first | exact ce2_4 | exact (cell_old ze2 _).trans ce2_4 | (simp; done))
      have ce3_5 : w3.cell? ⟨w.heap.size, 5, none⟩ = some (.bool a0l) := cell_next h3 (by first | exact ze2 | (rw [World.size_alloc]; omega) | (simp; done) | (simp; omega)) (by first | exact ce2_5 | exact (cell_old ze2 _).trans ce2_5 | (simp; done))
      have ce3_6 : w3.cell? ⟨w.heap.size, 6, none⟩ = some (.bool a0g) := cell_next h3 (by first | exact ze2 | (rw [World.size_alloc]; omega) | (simp; done) | (simp; omega)) (by first | exact ce2_6 | exact (cell_old ze2 _).trans ce2_6 | (simp; done))
      have ce3_7 : w3.cell? ⟨w.heap.size, 7, none⟩ = some (.bool a0n) := cell_next h3 (by first | exact ze2 | (rw [World.size_alloc]; omega) | (simp; done) | (simp; omega)) (by first | exact ce2_7 | exact (cell_old ze2 _).trans ce2_7 | (simp; done))
      have ce3_8 : w3.cell? ⟨w.heap.size, 8, none⟩ = some (.int .i64 a0f) := cell_next h3 (by first | exact ze2 | (rw [World.size_alloc]; omega) | (simp; done) | (simp; omega)) (by first | exact ce2_8 | exact (cell_old ze2 _).trans ce2_8 | (simp; done))
      clear ze2 ce2_0 ce2_1 ce2_2 ce2_3 ce2_4 ce2_5 ce2_6 ce2_7 ce2_8
      have B3 : Hid (Below w.heap.size w w3) := below_then (by first | exact B2.out | exact below_new (B2.out) _ | exact below_new2 (B2.out) _ _ | exact below_new (below_new2 (B2.out) _ _) _) h3
      clear h3
      go_wp2_with fail
      refine (U2.out _).mono ?_
      rintro e w4 ⟨rfl, h4⟩
      have ze4 : w.heap.size < w4.heap.size := Nat.lt_of_lt_of_le (by first | exact ze3 | (rw [World.size_alloc]; omega) | (simp; done) | (simp; omega)) h4.size
      have ce4_0 : w4.cell? ⟨w.heap.size, 0, none⟩ = some (.bool a0p) := cell_next h4 (by first | exact ze3 | (rw [World.size_alloc]; omega) | (simp; done) | (simp; omega)) (by first | exact ce3_0 | exact (cell_old ze3 _).trans ce3_0 | (simp; done))
      have ce4_1 : w4.cell? ⟨w.heap.size, 1, none⟩ = some (.bool a0q) := cell_next h4 (by first | exact ze3 | (rw [World.size_alloc]; omega) | (simp; done) | (simp; omega)) (by first | exact ce3_1 | exact (cell_old ze3 _).trans ce3_1 | (simp; done))
      have ce4_2 : w4.cell? ⟨w.heap.size, 2, none⟩ = some (.bool a0u) := cell_next h4 (by first | exact ze3 | (rw [World.size_alloc]; omega) | (simp; done) | (simp; omega)) (by first | exact ce3_2 | exact (cell_old ze3 _).trans ce3_2 | (simp; done))
      have ce4_3 : w4.cell? ⟨w.heap.size, 3, none⟩ = some (.bool a0a) := cell_next h4 (by first | exact ze3 | (rw [World.size_alloc]; omega) | (simp; done) | (simp; omega)) (by first | exact ce3_3 | exact (cell_old ze3 _).trans ce3_3 | (simp; done))
      have ce4_4 : w4.cell? ⟨w.heap.size, 4, none⟩ = some (.bool a0d) := cell_next h4 (by first | exact ze3 | (rw [World.size_alloc]; omega) | (simp; done) | (simp; omega)) (by first | exact ce3_4 | exact (cell_old ze3 _).trans ce3_4 | (simp; done))
      have ce4_5 : w4.cell? ⟨w.heap.size, 5, none⟩ = some (.bool a0l) := cell_next h4 (by first | exact ze3 | (rw [World.size_alloc]; omega) | (simp; done) | (simp; omega)) (by first | exact ce3_5 | exact (cell_old ze3 _).trans ce3_5 | (simp; done))
      have ce4_6 : w4.cell? ⟨w.heap.size, 6, none⟩ = some (.bool a0g) := cell_next h4 (by first | exact ze3 | (rw [World.size_alloc]; omega) | (simp; done) | (simp; omega)) (by first | exact ce3_6 | exact (cell_old ze3 _).trans ce3_6 | (simp; done))
      have ce4_7 : w4.cell? ⟨w.heap.size, 7, none⟩ = some (.bool a0n) := cell_next h4 (by first | exact ze3 | (rw [World.size_alloc]; omega) | (simp; done) | (simp; omega)) (by first | exact ce3_7 | exact (cell_old ze3 _).trans ce3_7 | (simp; done))
      have ce4_8 : w4.cell? ⟨w.heap.size, 8, none⟩ = some (.int .i64 a0f) := cell_next h4 (by first | exact ze3 | (rw [World.size_alloc]; omega) | (simp; done) | (simp; omega)) (by first | exact ce3_8 | exact (cell_old ze3 _).trans ce3_8 | (simp; done))
      clear ze3 ce3_0 ce3_1 ce3_2 ce3_3 ce3_4 ce3_5 ce3_6 ce3_7 ce3_8
      have B4 : Hid (Below w.heap.size w w4) := below_then (by first | exact B3.out | exact below_new (B3.out) _ | exact below_new2 (B3.out) _ _ | exact below_new (below_new2 (B3.out) _ _) _) h4
      clear h4
      go_wp2_with fail
      go_ret
      exact ⟨rfl, by first | exact B4.out | exact below_new (B4.out) _ | exact below_new2 (B4.out) _ _ | exact below_new (below_new2 (B4.out) _ _) _⟩

set_option maxRecDepth 100000 in
theorem lifted (os : Os) (started : os.Started) (H : Type) (enc : TypeId × Value → H) :
    ReturnsInHanded {} Tryd.checked os 3 .any (fun w args => (Rows.ptePacksSpec.pre enc Tryd.prog Tryd.f3 [] false w args ∧ laidMetH Tryd.prog laidL w) ∧ sizedMet enc Tryd.prog Tryd.f3 (OpenSpec.ofChange Rows.ptePacksSpec) false w args)
      (Rows.ptePacksSpec.post enc Tryd.prog Tryd.f3 false true false false) := by
  refine returnsInHanded_of_change_and (C := Tryd.checked) (X := fun w _ => laidMetH Tryd.prog laidL w) (fun _ _ _ hh h => h.of_heap hh) own started (by kernel_rfl) Tryd.func3
    (ChangeSpec.witness_shaped (enc := enc) (C := Tryd.checked) (os := os) (X := fun w _ => laidMetH Tryd.prog laidL w) false (World.doorLaid Tryd.prog 400 os) #[.agg #[.bool false, .bool false, .bool false, .bool false, .bool false, .bool false, .bool false, .bool false, .int .i64 0], .int .u64 0] 8 rfl (World.shaped_of_RefB (by kernel_rfl) (by kernel_rfl)) (by kernel_rfl) (by kernel_rfl) (by kernel_rfl) (door_met os _)) ?_
  intro W base args ds gs before hval0 hW _ _ hL _
  have hval : ∀ (j : Nat) t v, Tryd.f3.params[j]? = some t → args[j]? = some v → Value.okWide Tryd.prog W .any base t v := hval0
  have hW' := hW
  obtain ⟨p, q, hA0, hV, hbef, hfz, hnd⟩ := hW
  have hA : DataW.TrodAll enc Tryd.prog W 0 (fun _ => true) true Tryd.f3.params.toList args.toList ds p := hA0
  have hAk := hA
  have hlt : ∀ x ∈ p, x.block < W.heap.size := fun x hx => hW'.lt x (by rw [hbef]; exact List.mem_append_left _ hx)
  rw [Tryd.params3] at hA hval
  obtain ⟨v0, vs0, d0, ds0, p0, q0, hargs, rfl, hp0, h0, r0⟩ := trodAll_cons hA
  obtain ⟨v1, vs1, d1, ds1, p1, q1, rfl, rfl, hp1, h1, r1⟩ := trodAll_cons r0
  obtain ⟨rfl, rfl, hpz⟩ := trodAll_nil r1
  obtain rfl : args = #[v0, v1] := by cases args; simp_all
  obtain ⟨rfl, rfl⟩ := trodVars_none hV
  obtain ⟨a0p, a0q, a0u, a0a, a0d, a0l, a0g, a0n, a0f, rfl, w0⟩ := open_entry (hval 0 23 v0 rfl rfl) h0
  obtain ⟨a1, rfl, _, _, w1⟩ := open_int Tryd.underlying24 (hval 1 24 v1 rfl rfl) h1
  clear hA0 hval0
  refine (walk a0p a0q a0u a0a a0d a0l a0g a0n a0f w0 a1 w1 W (of_laid hL)).mono fun e W' ⟨he, hg⟩ => ?_
  subst he
  exact ⟨_, rfl, ⟨_, _, _, [], p, [], hW', (trodAll_cons_mk (shut_bool Tryd.underlying4 _) trodAll_mk0), args_stay laidOut hg (by kernel_rfl) hAk hlt, rfl, hg.frame _, fun h => by cases h⟩⟩

theorem over : Rows.ptePacksRow.holds Tryd.pinned (OpenSpec.ofChange Rows.ptePacksSpec) :=
  OpenClaim.holds_of_wide 3 Tryd.f3 rfl rfl rfl rfl rfl rfl rfl ⟨rfl, rfl, rfl, rfl, rfl⟩ rfl rfl rfl rfl rfl (by kernel_rfl) Tryd.func3 (by kernel_rfl)
    (of_decide_eq_true (by kernel_rfl)) (by unfold Func.isWrapper; first | (rw [if_pos (by decide +kernel)]; kernel_rfl) | (rw [if_neg (by decide +kernel)]; exact ⟨rfl, rfl⟩))
    (fun os started H enc _ => lifted os started H enc)

theorem proved : Rows.PtePacksCardSaid :=
  Claim7.holds_tied_plain_at .later [] [.data] true (true, "5129a5eca379c96864e158ea4b1044541d75a34f8fa9236a7f9e539890485962") false
    over (fun _ h => by cases h) (by kernel_rfl) (fun _ h => by cases h) ptePacks_row_tie rfl ⟨rfl, rfl⟩ (by kernel_rfl) rfl
    (fun f fn hf hfn => by
      obtain rfl : f = 3 := Option.some.inj ((show Tryd.prog.funcNamed "demesne/demesnelaw03.PtePacks" = some 3 by kernel_rfl).symm.trans hf) |>.symm
      obtain rfl : fn = Tryd.f3 := (Option.some.inj (Tryd.func3.symm.trans hfn)).symm
      exact ⟨by kernel_rfl, fun j t ht => by
        rw [Tryd.params3] at ht
        have hm : t ∈ [23, 24] := by simpa using Array.mem_of_getElem? ht
        have hall : ([23, 24].all fun u => !Tryd.prog.wantsStandIn u) = true := by kernel_rfl
        exact (show Tryd.prog.wantsStandIn t = false by simpa using List.all_eq_true.1 hall t hm)⟩)
    (by kernel_rfl)
#print axioms proved
end Go.Proofs.YtnjoiknfaibheaaDoor.ptePacks
