/- For any entry and flag: a flag more sets just one bit of an entry's number; the table of the flags' bits as the program lays it. -/
import Derived.Test.YtnjoiknfaibheabDoorRows
import Derived.Test.YtnjoiknfaibheabDoorCards
import Derived.Test.YtnjoiknfaibheabDoorTie
import Derived.ProofKit
import Derived.OpenShut
import Derived.Stop.Joined
import Derived.SevenTiedAt
import Derived.Test.YtnjoiknfaibheabDoorP6
namespace Go.Proofs.YtnjoiknfaibheabDoor.pteBits
open Go.ChangeShapes Go.WideShapes Go.ChangeAt Go.RowKit
set_option linter.unusedSimpArgs false
set_option linter.unusedVariables false
theorem bit_0 (V : Int) (v0 : 0 ≤ V) (v1 : V < 18446744073709551616) (h : bt (V) = false) : bits .or .u64 V 1 = V + 1 ∧ bits .and .u64 V 1 = 0 := by
  have hb : V % 2 = 0 := by
    unfold bt at h
    have := of_decide_eq_false (p := V % 2 = 1) (by simpa using h)
    omega
  refine ⟨or_bit V 0 (V / 2) (V % 1) (by omega) (by omega) (by simp only [Int.reducePow]; omega) (by simp only [Int.reducePow, Nat.reduceAdd]; omega) _ (by decide) (by omega) v1, ?_⟩
  rw [and_mask V v0 v1 0 1 _ (by decide) (by omega)]
  simp only [Int.reducePow, Int.ediv_one]
  rw [hb]; rfl
theorem bit_1 (V : Int) (v0 : 0 ≤ V) (v1 : V < 18446744073709551616) (h : bt (V / 2) = false) : bits .or .u64 V 2 = V + 2 ∧ bits .and .u64 V 2 = 0 := by
  have hb : V / 2 % 2 = 0 := by
    unfold bt at h
    have := of_decide_eq_false (p := V / 2 % 2 = 1) (by simpa using h)
    omega
  refine ⟨or_bit V 1 (V / 4) (V % 2) (by omega) (by omega) (by simp only [Int.reducePow]; omega) (by simp only [Int.reducePow, Nat.reduceAdd]; omega) _ (by decide) (by omega) v1, ?_⟩
  rw [and_mask V v0 v1 1 1 _ (by decide) (by omega)]
  simp only [Int.reducePow, Int.ediv_one]
  rw [hb]; rfl
theorem bit_2 (V : Int) (v0 : 0 ≤ V) (v1 : V < 18446744073709551616) (h : bt (V / 4) = false) : bits .or .u64 V 4 = V + 4 ∧ bits .and .u64 V 4 = 0 := by
  have hb : V / 4 % 2 = 0 := by
    unfold bt at h
    have := of_decide_eq_false (p := V / 4 % 2 = 1) (by simpa using h)
    omega
  refine ⟨or_bit V 2 (V / 8) (V % 4) (by omega) (by omega) (by simp only [Int.reducePow]; omega) (by simp only [Int.reducePow, Nat.reduceAdd]; omega) _ (by decide) (by omega) v1, ?_⟩
  rw [and_mask V v0 v1 2 1 _ (by decide) (by omega)]
  simp only [Int.reducePow, Int.ediv_one]
  rw [hb]; rfl
theorem bit_3 (V : Int) (v0 : 0 ≤ V) (v1 : V < 18446744073709551616) (h : bt (V / 32) = false) : bits .or .u64 V 32 = V + 32 ∧ bits .and .u64 V 32 = 0 := by
  have hb : V / 32 % 2 = 0 := by
    unfold bt at h
    have := of_decide_eq_false (p := V / 32 % 2 = 1) (by simpa using h)
    omega
  refine ⟨or_bit V 5 (V / 64) (V % 32) (by omega) (by omega) (by simp only [Int.reducePow]; omega) (by simp only [Int.reducePow, Nat.reduceAdd]; omega) _ (by decide) (by omega) v1, ?_⟩
  rw [and_mask V v0 v1 5 1 _ (by decide) (by omega)]
  simp only [Int.reducePow, Int.ediv_one]
  rw [hb]; rfl
theorem bit_4 (V : Int) (v0 : 0 ≤ V) (v1 : V < 18446744073709551616) (h : bt (V / 64) = false) : bits .or .u64 V 64 = V + 64 ∧ bits .and .u64 V 64 = 0 := by
  have hb : V / 64 % 2 = 0 := by
    unfold bt at h
    have := of_decide_eq_false (p := V / 64 % 2 = 1) (by simpa using h)
    omega
  refine ⟨or_bit V 6 (V / 128) (V % 64) (by omega) (by omega) (by simp only [Int.reducePow]; omega) (by simp only [Int.reducePow, Nat.reduceAdd]; omega) _ (by decide) (by omega) v1, ?_⟩
  rw [and_mask V v0 v1 6 1 _ (by decide) (by omega)]
  simp only [Int.reducePow, Int.ediv_one]
  rw [hb]; rfl
theorem bit_5 (V : Int) (v0 : 0 ≤ V) (v1 : V < 18446744073709551616) (h : bt (V / 128) = false) : bits .or .u64 V 128 = V + 128 ∧ bits .and .u64 V 128 = 0 := by
  have hb : V / 128 % 2 = 0 := by
    unfold bt at h
    have := of_decide_eq_false (p := V / 128 % 2 = 1) (by simpa using h)
    omega
  refine ⟨or_bit V 7 (V / 256) (V % 128) (by omega) (by omega) (by simp only [Int.reducePow]; omega) (by simp only [Int.reducePow, Nat.reduceAdd]; omega) _ (by decide) (by omega) v1, ?_⟩
  rw [and_mask V v0 v1 7 1 _ (by decide) (by omega)]
  simp only [Int.reducePow, Int.ediv_one]
  rw [hb]; rfl
theorem bit_6 (V : Int) (v0 : 0 ≤ V) (v1 : V < 18446744073709551616) (h : bt (V / 256) = false) : bits .or .u64 V 256 = V + 256 ∧ bits .and .u64 V 256 = 0 := by
  have hb : V / 256 % 2 = 0 := by
    unfold bt at h
    have := of_decide_eq_false (p := V / 256 % 2 = 1) (by simpa using h)
    omega
  refine ⟨or_bit V 8 (V / 512) (V % 256) (by omega) (by omega) (by simp only [Int.reducePow]; omega) (by simp only [Int.reducePow, Nat.reduceAdd]; omega) _ (by decide) (by omega) v1, ?_⟩
  rw [and_mask V v0 v1 8 1 _ (by decide) (by omega)]
  simp only [Int.reducePow, Int.ediv_one]
  rw [hb]; rfl
theorem bit_7 (V : Int) (v0 : 0 ≤ V) (v1 : V < 18446744073709551616) (h : bt (V / 9223372036854775808) = false) : bits .or .u64 V 9223372036854775808 = V + 9223372036854775808 ∧ bits .and .u64 V 9223372036854775808 = 0 := by
  have hb : V / 9223372036854775808 % 2 = 0 := by
    unfold bt at h
    have := of_decide_eq_false (p := V / 9223372036854775808 % 2 = 1) (by simpa using h)
    omega
  refine ⟨or_bit V 63 (V / 18446744073709551616) (V % 9223372036854775808) (by omega) (by omega) (by simp only [Int.reducePow]; omega) (by simp only [Int.reducePow, Nat.reduceAdd]; omega) _ (by decide) (by omega) v1, ?_⟩
  rw [and_mask V v0 v1 63 1 _ (by decide) (by omega)]
  simp only [Int.reducePow, Int.ediv_one]
  rw [hb]; rfl

set_option maxHeartbeats 2000000 in
theorem walk (a0p a0q a0u a0a a0d a0l a0g a0n : Bool) (a0f : Int) (w0 : (Lit.int .i64 a0f).wf = true) (a1 : Int) (w1 : (Lit.int .i64 a1).wf = true) (w : World) (ht : Tab w) :
    Calls Tryd.prog 4 #[.agg #[.bool a0p, .bool a0q, .bool a0u, .bool a0a, .bool a0d, .bool a0l, .bool a0g, .bool a0n, .int .i64 a0f], .int .i64 a1] w fun e w' => e = .returned (.bool true) ∧ Below w.heap.size w w' := by
  have A := awake_c
  have T : Hid (Tab w) := ht
  clear ht w0 w1
  by_cases c : 0 ≤ a0f ∧ a0f < 1048576
  · obtain ⟨c0, c1⟩ := c
    by_cases h0 : a1 = 0
    · subst h0
      obtain ⟨V, hV⟩ : ∃ V, packV false a0q a0u a0a a0d a0l a0g a0n a0f = V := ⟨_, rfl⟩
      have hv := packV_bd false a0q a0u a0a a0d a0l a0g a0n a0f c0 c1
      have hu := unp_pack false a0q a0u a0a a0d a0l a0g a0n a0f c0 c1
      rw [hV] at hv hu
      unfold unp at hu
      injection hu with hu
      have hu' := congrArg (fun (z : Array Value) => z[0]?) hu
      simp at hu'
      obtain ⟨o1, o2⟩ := bit_0 V hv.1 hv.2 hu'
      have hW : packV true a0q a0u a0a a0d a0l a0g a0n a0f = V + 1 := by rw [← hV]; unfold packV; rw [fl_true, fl_false]; omega
      have P1 : Hid (∀ w : World, Tab w → Calls Tryd.prog 8 #[.agg #[.bool false, .bool a0q, .bool a0u, .bool a0a, .bool a0d, .bool a0l, .bool a0g, .bool a0n, .int .i64 a0f]] w fun e w' => e = .returned (.tuple #[.int .u64 V, .int .i64 0]) ∧ Below w.heap.size w w') := fun w ht => by
        rw [← hV]; exact pack_ok false a0q a0u a0a a0d a0l a0g a0n a0f c0 c1 w ht
      have P2 : Hid (∀ w : World, Tab w → Calls Tryd.prog 8 #[.agg #[.bool true, .bool a0q, .bool a0u, .bool a0a, .bool a0d, .bool a0l, .bool a0g, .bool a0n, .int .i64 a0f]] w fun e w' => e = .returned (.tuple #[.int .u64 (V + 1), .int .i64 0]) ∧ Below w.heap.size w w') := fun w ht => by
        rw [← hW]; exact pack_ok true a0q a0u a0a a0d a0l a0g a0n a0f c0 c1 w ht
      clear hu hu' hV hW hv
      go_enter Tryd.func4, Tryd.ntmps4
      go_wp2_with fail
      refine (P1.out _ (T.out.keep (by first | exact Below.refl _ _ | exact below_new (Below.refl _ _) _ | exact below_new2 (Below.refl _ _) _ _ | exact below_new (below_new2 (Below.refl _ _) _ _) _))).mono ?_
      rintro e w1 ⟨rfl, h1⟩
      have zf1 : w.heap.size + 1 < w1.heap.size := Nat.lt_of_lt_of_le (by first | (simp; done) | (simp; omega)) h1.size
      have cf1_0 : w1.cell? ⟨w.heap.size + 1, 0, none⟩ = some (.bool true) := cell_next h1 (by first | (simp; done) | (simp; omega)) (by first | (simp; done))
      have cf1_1 : w1.cell? ⟨w.heap.size + 1, 1, none⟩ = some (.bool a0q) := cell_next h1 (by first | (simp; done) | (simp; omega)) (by first | (simp; done))
      have cf1_2 : w1.cell? ⟨w.heap.size + 1, 2, none⟩ = some (.bool a0u) := cell_next h1 (by first | (simp; done) | (simp; omega)) (by first | (simp; done))
      have cf1_3 : w1.cell? ⟨w.heap.size + 1, 3, none⟩ = some (.bool a0a) := cell_next h1 (by first | (simp; done) | (simp; omega)) (by first | (simp; done))
      have cf1_4 : w1.cell? ⟨w.heap.size + 1, 4, none⟩ = some (.bool a0d) := cell_next h1 (by first | (simp; done) | (simp; omega)) (by first | (simp; done))
      have cf1_5 : w1.cell? ⟨w.heap.size + 1, 5, none⟩ = some (.bool a0l) := cell_next h1 (by first | (simp; done) | (simp; omega)) (by first | (simp; done))
      have cf1_6 : w1.cell? ⟨w.heap.size + 1, 6, none⟩ = some (.bool a0g) := cell_next h1 (by first | (simp; done) | (simp; omega)) (by first | (simp; done))
      have cf1_7 : w1.cell? ⟨w.heap.size + 1, 7, none⟩ = some (.bool a0n) := cell_next h1 (by first | (simp; done) | (simp; omega)) (by first | (simp; done))
      have cf1_8 : w1.cell? ⟨w.heap.size + 1, 8, none⟩ = some (.int .i64 a0f) := cell_next h1 (by first | (simp; done) | (simp; omega)) (by first | (simp; done))
      have B1 : Hid (Below w.heap.size w w1) := below_then (by first | exact Below.refl _ _ | exact below_new (Below.refl _ _) _ | exact below_new2 (Below.refl _ _) _ _ | exact below_new (below_new2 (Below.refl _ _) _ _) _) h1
      clear h1
      go_wp2_with fail
      refine (P2.out _ (T.out.keep (by first | exact B1.out | exact below_new (B1.out) _ | exact below_new2 (B1.out) _ _ | exact below_new (below_new2 (B1.out) _ _) _))).mono ?_
      rintro e w2 ⟨rfl, h2⟩
      have B2 : Hid (Below w.heap.size w w2) := below_then (by first | exact B1.out | exact below_new (B1.out) _ | exact below_new2 (B1.out) _ _ | exact below_new (below_new2 (B1.out) _ _) _) h2
      clear h2
      go_wp2_with fail
      refine (A.out _ (T.out.keep (by first | exact B2.out | exact below_new (B2.out) _ | exact below_new2 (B2.out) _ _ | exact below_new (below_new2 (B2.out) _ _) _))).mono ?_
      rintro e w3 ⟨rfl, h3⟩
      have B3 : Hid (Below w.heap.size w w3) := below_then (by first | exact B2.out | exact below_new (B2.out) _ | exact below_new2 (B2.out) _ _ | exact below_new (below_new2 (B2.out) _ _) _) h3
      clear h3
      go_wp2_with fail
      go_ret
      exact ⟨by simp, by first | exact B3.out | exact below_new (B3.out) _ | exact below_new2 (B3.out) _ _ | exact below_new (below_new2 (B3.out) _ _) _⟩
    by_cases h1 : a1 = 1
    · subst h1
      obtain ⟨V, hV⟩ : ∃ V, packV a0p false a0u a0a a0d a0l a0g a0n a0f = V := ⟨_, rfl⟩
      have hv := packV_bd a0p false a0u a0a a0d a0l a0g a0n a0f c0 c1
      have hu := unp_pack a0p false a0u a0a a0d a0l a0g a0n a0f c0 c1
      rw [hV] at hv hu
      unfold unp at hu
      injection hu with hu
      have hu' := congrArg (fun (z : Array Value) => z[1]?) hu
      simp at hu'
      obtain ⟨o1, o2⟩ := bit_1 V hv.1 hv.2 hu'
      have hW : packV a0p true a0u a0a a0d a0l a0g a0n a0f = V + 2 := by rw [← hV]; unfold packV; rw [fl_true, fl_false]; omega
      have P1 : Hid (∀ w : World, Tab w → Calls Tryd.prog 8 #[.agg #[.bool a0p, .bool false, .bool a0u, .bool a0a, .bool a0d, .bool a0l, .bool a0g, .bool a0n, .int .i64 a0f]] w fun e w' => e = .returned (.tuple #[.int .u64 V, .int .i64 0]) ∧ Below w.heap.size w w') := fun w ht => by
        rw [← hV]; exact pack_ok a0p false a0u a0a a0d a0l a0g a0n a0f c0 c1 w ht
      have P2 : Hid (∀ w : World, Tab w → Calls Tryd.prog 8 #[.agg #[.bool a0p, .bool true, .bool a0u, .bool a0a, .bool a0d, .bool a0l, .bool a0g, .bool a0n, .int .i64 a0f]] w fun e w' => e = .returned (.tuple #[.int .u64 (V + 2), .int .i64 0]) ∧ Below w.heap.size w w') := fun w ht => by
        rw [← hW]; exact pack_ok a0p true a0u a0a a0d a0l a0g a0n a0f c0 c1 w ht
      clear hu hu' hV hW hv
      go_enter Tryd.func4, Tryd.ntmps4
      go_wp2_with fail
      refine (P1.out _ (T.out.keep (by first | exact Below.refl _ _ | exact below_new (Below.refl _ _) _ | exact below_new2 (Below.refl _ _) _ _ | exact below_new (below_new2 (Below.refl _ _) _ _) _))).mono ?_
      rintro e w1 ⟨rfl, h1⟩
      have zf1 : w.heap.size + 1 < w1.heap.size := Nat.lt_of_lt_of_le (by first | (simp; done) | (simp; omega)) h1.size
      have cf1_0 : w1.cell? ⟨w.heap.size + 1, 0, none⟩ = some (.bool a0p) := cell_next h1 (by first | (simp; done) | (simp; omega)) (by first | (simp; done))
      have cf1_1 : w1.cell? ⟨w.heap.size + 1, 1, none⟩ = some (.bool true) := cell_next h1 (by first | (simp; done) | (simp; omega)) (by first | (simp; done))
      have cf1_2 : w1.cell? ⟨w.heap.size + 1, 2, none⟩ = some (.bool a0u) := cell_next h1 (by first | (simp; done) | (simp; omega)) (by first | (simp; done))
      have cf1_3 : w1.cell? ⟨w.heap.size + 1, 3, none⟩ = some (.bool a0a) := cell_next h1 (by first | (simp; done) | (simp; omega)) (by first | (simp; done))
      have cf1_4 : w1.cell? ⟨w.heap.size + 1, 4, none⟩ = some (.bool a0d) := cell_next h1 (by first | (simp; done) | (simp; omega)) (by first | (simp; done))
      have cf1_5 : w1.cell? ⟨w.heap.size + 1, 5, none⟩ = some (.bool a0l) := cell_next h1 (by first | (simp; done) | (simp; omega)) (by first | (simp; done))
      have cf1_6 : w1.cell? ⟨w.heap.size + 1, 6, none⟩ = some (.bool a0g) := cell_next h1 (by first | (simp; done) | (simp; omega)) (by first | (simp; done))
      have cf1_7 : w1.cell? ⟨w.heap.size + 1, 7, none⟩ = some (.bool a0n) := cell_next h1 (by first | (simp; done) | (simp; omega)) (by first | (simp; done))
      have cf1_8 : w1.cell? ⟨w.heap.size + 1, 8, none⟩ = some (.int .i64 a0f) := cell_next h1 (by first | (simp; done) | (simp; omega)) (by first | (simp; done))
      have B1 : Hid (Below w.heap.size w w1) := below_then (by first | exact Below.refl _ _ | exact below_new (Below.refl _ _) _ | exact below_new2 (Below.refl _ _) _ _ | exact below_new (below_new2 (Below.refl _ _) _ _) _) h1
      clear h1
      go_wp2_with fail
      refine (P2.out _ (T.out.keep (by first | exact B1.out | exact below_new (B1.out) _ | exact below_new2 (B1.out) _ _ | exact below_new (below_new2 (B1.out) _ _) _))).mono ?_
      rintro e w2 ⟨rfl, h2⟩
      have B2 : Hid (Below w.heap.size w w2) := below_then (by first | exact B1.out | exact below_new (B1.out) _ | exact below_new2 (B1.out) _ _ | exact below_new (below_new2 (B1.out) _ _) _) h2
      clear h2
      go_wp2_with fail
      refine (A.out _ (T.out.keep (by first | exact B2.out | exact below_new (B2.out) _ | exact below_new2 (B2.out) _ _ | exact below_new (below_new2 (B2.out) _ _) _))).mono ?_
      rintro e w3 ⟨rfl, h3⟩
      have B3 : Hid (Below w.heap.size w w3) := below_then (by first | exact B2.out | exact below_new (B2.out) _ | exact below_new2 (B2.out) _ _ | exact below_new (below_new2 (B2.out) _ _) _) h3
      clear h3
      go_wp2_with fail
      go_ret
      exact ⟨by simp, by first | exact B3.out | exact below_new (B3.out) _ | exact below_new2 (B3.out) _ _ | exact below_new (below_new2 (B3.out) _ _) _⟩
    by_cases h2 : a1 = 2
    · subst h2
      obtain ⟨V, hV⟩ : ∃ V, packV a0p a0q false a0a a0d a0l a0g a0n a0f = V := ⟨_, rfl⟩
      have hv := packV_bd a0p a0q false a0a a0d a0l a0g a0n a0f c0 c1
      have hu := unp_pack a0p a0q false a0a a0d a0l a0g a0n a0f c0 c1
      rw [hV] at hv hu
      unfold unp at hu
      injection hu with hu
      have hu' := congrArg (fun (z : Array Value) => z[2]?) hu
      simp at hu'
      obtain ⟨o1, o2⟩ := bit_2 V hv.1 hv.2 hu'
      have hW : packV a0p a0q true a0a a0d a0l a0g a0n a0f = V + 4 := by rw [← hV]; unfold packV; rw [fl_true, fl_false]; omega
      have P1 : Hid (∀ w : World, Tab w → Calls Tryd.prog 8 #[.agg #[.bool a0p, .bool a0q, .bool false, .bool a0a, .bool a0d, .bool a0l, .bool a0g, .bool a0n, .int .i64 a0f]] w fun e w' => e = .returned (.tuple #[.int .u64 V, .int .i64 0]) ∧ Below w.heap.size w w') := fun w ht => by
        rw [← hV]; exact pack_ok a0p a0q false a0a a0d a0l a0g a0n a0f c0 c1 w ht
      have P2 : Hid (∀ w : World, Tab w → Calls Tryd.prog 8 #[.agg #[.bool a0p, .bool a0q, .bool true, .bool a0a, .bool a0d, .bool a0l, .bool a0g, .bool a0n, .int .i64 a0f]] w fun e w' => e = .returned (.tuple #[.int .u64 (V + 4), .int .i64 0]) ∧ Below w.heap.size w w') := fun w ht => by
        rw [← hW]; exact pack_ok a0p a0q true a0a a0d a0l a0g a0n a0f c0 c1 w ht
      clear hu hu' hV hW hv
      go_enter Tryd.func4, Tryd.ntmps4
      go_wp2_with fail
      refine (P1.out _ (T.out.keep (by first | exact Below.refl _ _ | exact below_new (Below.refl _ _) _ | exact below_new2 (Below.refl _ _) _ _ | exact below_new (below_new2 (Below.refl _ _) _ _) _))).mono ?_
      rintro e w1 ⟨rfl, h1⟩
      have zf1 : w.heap.size + 1 < w1.heap.size := Nat.lt_of_lt_of_le (by first | (simp; done) | (simp; omega)) h1.size
      have cf1_0 : w1.cell? ⟨w.heap.size + 1, 0, none⟩ = some (.bool a0p) := cell_next h1 (by first | (simp; done) | (simp; omega)) (by first | (simp; done))
      have cf1_1 : w1.cell? ⟨w.heap.size + 1, 1, none⟩ = some (.bool a0q) := cell_next h1 (by first | (simp; done) | (simp; omega)) (by first | (simp; done))
      have cf1_2 : w1.cell? ⟨w.heap.size + 1, 2, none⟩ = some (.bool true) := cell_next h1 (by first | (simp; done) | (simp; omega)) (by first | (simp; done))
      have cf1_3 : w1.cell? ⟨w.heap.size + 1, 3, none⟩ = some (.bool a0a) := cell_next h1 (by first | (simp; done) | (simp; omega)) (by first | (simp; done))
      have cf1_4 : w1.cell? ⟨w.heap.size + 1, 4, none⟩ = some (.bool a0d) := cell_next h1 (by first | (simp; done) | (simp; omega)) (by first | (simp; done))
      have cf1_5 : w1.cell? ⟨w.heap.size + 1, 5, none⟩ = some (.bool a0l) := cell_next h1 (by first | (simp; done) | (simp; omega)) (by first | (simp; done))
      have cf1_6 : w1.cell? ⟨w.heap.size + 1, 6, none⟩ = some (.bool a0g) := cell_next h1 (by first | (simp; done) | (simp; omega)) (by first | (simp; done))
      have cf1_7 : w1.cell? ⟨w.heap.size + 1, 7, none⟩ = some (.bool a0n) := cell_next h1 (by first | (simp; done) | (simp; omega)) (by first | (simp; done))
      have cf1_8 : w1.cell? ⟨w.heap.size + 1, 8, none⟩ = some (.int .i64 a0f) := cell_next h1 (by first | (simp; done) | (simp; omega)) (by first | (simp; done))
      have B1 : Hid (Below w.heap.size w w1) := below_then (by first | exact Below.refl _ _ | exact below_new (Below.refl _ _) _ | exact below_new2 (Below.refl _ _) _ _ | exact below_new (below_new2 (Below.refl _ _) _ _) _) h1
      clear h1
      go_wp2_with fail
      refine (P2.out _ (T.out.keep (by first | exact B1.out | exact below_new (B1.out) _ | exact below_new2 (B1.out) _ _ | exact below_new (below_new2 (B1.out) _ _) _))).mono ?_
      rintro e w2 ⟨rfl, h2⟩
      have B2 : Hid (Below w.heap.size w w2) := below_then (by first | exact B1.out | exact below_new (B1.out) _ | exact below_new2 (B1.out) _ _ | exact below_new (below_new2 (B1.out) _ _) _) h2
      clear h2
      go_wp2_with fail
      refine (A.out _ (T.out.keep (by first | exact B2.out | exact below_new (B2.out) _ | exact below_new2 (B2.out) _ _ | exact below_new (below_new2 (B2.out) _ _) _))).mono ?_
      rintro e w3 ⟨rfl, h3⟩
      have B3 : Hid (Below w.heap.size w w3) := below_then (by first | exact B2.out | exact below_new (B2.out) _ | exact below_new2 (B2.out) _ _ | exact below_new (below_new2 (B2.out) _ _) _) h3
      clear h3
      go_wp2_with fail
      go_ret
      exact ⟨by simp, by first | exact B3.out | exact below_new (B3.out) _ | exact below_new2 (B3.out) _ _ | exact below_new (below_new2 (B3.out) _ _) _⟩
    by_cases h3 : a1 = 3
    · subst h3
      obtain ⟨V, hV⟩ : ∃ V, packV a0p a0q a0u false a0d a0l a0g a0n a0f = V := ⟨_, rfl⟩
      have hv := packV_bd a0p a0q a0u false a0d a0l a0g a0n a0f c0 c1
      have hu := unp_pack a0p a0q a0u false a0d a0l a0g a0n a0f c0 c1
      rw [hV] at hv hu
      unfold unp at hu
      injection hu with hu
      have hu' := congrArg (fun (z : Array Value) => z[3]?) hu
      simp at hu'
      obtain ⟨o1, o2⟩ := bit_3 V hv.1 hv.2 hu'
      have hW : packV a0p a0q a0u true a0d a0l a0g a0n a0f = V + 32 := by rw [← hV]; unfold packV; rw [fl_true, fl_false]; omega
      have P1 : Hid (∀ w : World, Tab w → Calls Tryd.prog 8 #[.agg #[.bool a0p, .bool a0q, .bool a0u, .bool false, .bool a0d, .bool a0l, .bool a0g, .bool a0n, .int .i64 a0f]] w fun e w' => e = .returned (.tuple #[.int .u64 V, .int .i64 0]) ∧ Below w.heap.size w w') := fun w ht => by
        rw [← hV]; exact pack_ok a0p a0q a0u false a0d a0l a0g a0n a0f c0 c1 w ht
      have P2 : Hid (∀ w : World, Tab w → Calls Tryd.prog 8 #[.agg #[.bool a0p, .bool a0q, .bool a0u, .bool true, .bool a0d, .bool a0l, .bool a0g, .bool a0n, .int .i64 a0f]] w fun e w' => e = .returned (.tuple #[.int .u64 (V + 32), .int .i64 0]) ∧ Below w.heap.size w w') := fun w ht => by
        rw [← hW]; exact pack_ok a0p a0q a0u true a0d a0l a0g a0n a0f c0 c1 w ht
      clear hu hu' hV hW hv
      go_enter Tryd.func4, Tryd.ntmps4
      go_wp2_with fail
      refine (P1.out _ (T.out.keep (by first | exact Below.refl _ _ | exact below_new (Below.refl _ _) _ | exact below_new2 (Below.refl _ _) _ _ | exact below_new (below_new2 (Below.refl _ _) _ _) _))).mono ?_
      rintro e w1 ⟨rfl, h1⟩
      have zf1 : w.heap.size + 1 < w1.heap.size := Nat.lt_of_lt_of_le (by first | (simp; done) | (simp; omega)) h1.size
      have cf1_0 : w1.cell? ⟨w.heap.size + 1, 0, none⟩ = some (.bool a0p) := cell_next h1 (by first | (simp; done) | (simp; omega)) (by first | (simp; done))
      have cf1_1 : w1.cell? ⟨w.heap.size + 1, 1, none⟩ = some (.bool a0q) := cell_next h1 (by first | (simp; done) | (simp; omega)) (by first | (simp; done))
      have cf1_2 : w1.cell? ⟨w.heap.size + 1, 2, none⟩ = some (.bool a0u) := cell_next h1 (by first | (simp; done) | (simp; omega)) (by first | (simp; done))
      have cf1_3 : w1.cell? ⟨w.heap.size + 1, 3, none⟩ = some (.bool true) := cell_next h1 (by first | (simp; done) | (simp; omega)) (by first | (simp; done))
      have cf1_4 : w1.cell? ⟨w.heap.size + 1, 4, none⟩ = some (.bool a0d) := cell_next h1 (by first | (simp; done) | (simp; omega)) (by first | (simp; done))
      have cf1_5 : w1.cell? ⟨w.heap.size + 1, 5, none⟩ = some (.bool a0l) := cell_next h1 (by first | (simp; done) | (simp; omega)) (by first | (simp; done))
      have cf1_6 : w1.cell? ⟨w.heap.size + 1, 6, none⟩ = some (.bool a0g) := cell_next h1 (by first | (simp; done) | (simp; omega)) (by first | (simp; done))
      have cf1_7 : w1.cell? ⟨w.heap.size + 1, 7, none⟩ = some (.bool a0n) := cell_next h1 (by first | (simp; done) | (simp; omega)) (by first | (simp; done))
      have cf1_8 : w1.cell? ⟨w.heap.size + 1, 8, none⟩ = some (.int .i64 a0f) := cell_next h1 (by first | (simp; done) | (simp; omega)) (by first | (simp; done))
      have B1 : Hid (Below w.heap.size w w1) := below_then (by first | exact Below.refl _ _ | exact below_new (Below.refl _ _) _ | exact below_new2 (Below.refl _ _) _ _ | exact below_new (below_new2 (Below.refl _ _) _ _) _) h1
      clear h1
      go_wp2_with fail
      refine (P2.out _ (T.out.keep (by first | exact B1.out | exact below_new (B1.out) _ | exact below_new2 (B1.out) _ _ | exact below_new (below_new2 (B1.out) _ _) _))).mono ?_
      rintro e w2 ⟨rfl, h2⟩
      have B2 : Hid (Below w.heap.size w w2) := below_then (by first | exact B1.out | exact below_new (B1.out) _ | exact below_new2 (B1.out) _ _ | exact below_new (below_new2 (B1.out) _ _) _) h2
      clear h2
      go_wp2_with fail
      refine (A.out _ (T.out.keep (by first | exact B2.out | exact below_new (B2.out) _ | exact below_new2 (B2.out) _ _ | exact below_new (below_new2 (B2.out) _ _) _))).mono ?_
      rintro e w3 ⟨rfl, h3⟩
      have B3 : Hid (Below w.heap.size w w3) := below_then (by first | exact B2.out | exact below_new (B2.out) _ | exact below_new2 (B2.out) _ _ | exact below_new (below_new2 (B2.out) _ _) _) h3
      clear h3
      go_wp2_with fail
      go_ret
      exact ⟨by simp, by first | exact B3.out | exact below_new (B3.out) _ | exact below_new2 (B3.out) _ _ | exact below_new (below_new2 (B3.out) _ _) _⟩
    by_cases h4 : a1 = 4
    · subst h4
      obtain ⟨V, hV⟩ : ∃ V, packV a0p a0q a0u a0a false a0l a0g a0n a0f = V := ⟨_, rfl⟩
      have hv := packV_bd a0p a0q a0u a0a false a0l a0g a0n a0f c0 c1
      have hu := unp_pack a0p a0q a0u a0a false a0l a0g a0n a0f c0 c1
      rw [hV] at hv hu
      unfold unp at hu
      injection hu with hu
      have hu' := congrArg (fun (z : Array Value) => z[4]?) hu
      simp at hu'
      obtain ⟨o1, o2⟩ := bit_4 V hv.1 hv.2 hu'
      have hW : packV a0p a0q a0u a0a true a0l a0g a0n a0f = V + 64 := by rw [← hV]; unfold packV; rw [fl_true, fl_false]; omega
      have P1 : Hid (∀ w : World, Tab w → Calls Tryd.prog 8 #[.agg #[.bool a0p, .bool a0q, .bool a0u, .bool a0a, .bool false, .bool a0l, .bool a0g, .bool a0n, .int .i64 a0f]] w fun e w' => e = .returned (.tuple #[.int .u64 V, .int .i64 0]) ∧ Below w.heap.size w w') := fun w ht => by
        rw [← hV]; exact pack_ok a0p a0q a0u a0a false a0l a0g a0n a0f c0 c1 w ht
      have P2 : Hid (∀ w : World, Tab w → Calls Tryd.prog 8 #[.agg #[.bool a0p, .bool a0q, .bool a0u, .bool a0a, .bool true, .bool a0l, .bool a0g, .bool a0n, .int .i64 a0f]] w fun e w' => e = .returned (.tuple #[.int .u64 (V + 64), .int .i64 0]) ∧ Below w.heap.size w w') := fun w ht => by
        rw [← hW]; exact pack_ok a0p a0q a0u a0a true a0l a0g a0n a0f c0 c1 w ht
      clear hu hu' hV hW hv
      go_enter Tryd.func4, Tryd.ntmps4
      go_wp2_with fail
      refine (P1.out _ (T.out.keep (by first | exact Below.refl _ _ | exact below_new (Below.refl _ _) _ | exact below_new2 (Below.refl _ _) _ _ | exact below_new (below_new2 (Below.refl _ _) _ _) _))).mono ?_
      rintro e w1 ⟨rfl, h1⟩
      have zf1 : w.heap.size + 1 < w1.heap.size := Nat.lt_of_lt_of_le (by first | (simp; done) | (simp; omega)) h1.size
      have cf1_0 : w1.cell? ⟨w.heap.size + 1, 0, none⟩ = some (.bool a0p) := cell_next h1 (by first | (simp; done) | (simp; omega)) (by first | (simp; done))
      have cf1_1 : w1.cell? ⟨w.heap.size + 1, 1, none⟩ = some (.bool a0q) := cell_next h1 (by first | (simp; done) | (simp; omega)) (by first | (simp; done))
      have cf1_2 : w1.cell? ⟨w.heap.size + 1, 2, none⟩ = some (.bool a0u) := cell_next h1 (by first | (simp; done) | (simp; omega)) (by first | (simp; done))
      have cf1_3 : w1.cell? ⟨w.heap.size + 1, 3, none⟩ = some (.bool a0a) := cell_next h1 (by first | (simp; done) | (simp; omega)) (by first | (simp; done))
      have cf1_4 : w1.cell? ⟨w.heap.size + 1, 4, none⟩ = some (.bool true) := cell_next h1 (by first | (simp; done) | (simp; omega)) (by first | (simp; done))
      have cf1_5 : w1.cell? ⟨w.heap.size + 1, 5, none⟩ = some (.bool a0l) := cell_next h1 (by first | (simp; done) | (simp; omega)) (by first | (simp; done))
      have cf1_6 : w1.cell? ⟨w.heap.size + 1, 6, none⟩ = some (.bool a0g) := cell_next h1 (by first | (simp; done) | (simp; omega)) (by first | (simp; done))
      have cf1_7 : w1.cell? ⟨w.heap.size + 1, 7, none⟩ = some (.bool a0n) := cell_next h1 (by first | (simp; done) | (simp; omega)) (by first | (simp; done))
      have cf1_8 : w1.cell? ⟨w.heap.size + 1, 8, none⟩ = some (.int .i64 a0f) := cell_next h1 (by first | (simp; done) | (simp; omega)) (by first | (simp; done))
      have B1 : Hid (Below w.heap.size w w1) := below_then (by first | exact Below.refl _ _ | exact below_new (Below.refl _ _) _ | exact below_new2 (Below.refl _ _) _ _ | exact below_new (below_new2 (Below.refl _ _) _ _) _) h1
      clear h1
      go_wp2_with fail
      refine (P2.out _ (T.out.keep (by first | exact B1.out | exact below_new (B1.out) _ | exact below_new2 (B1.out) _ _ | exact below_new (below_new2 (B1.out) _ _) _))).mono ?_
      rintro e w2 ⟨rfl, h2⟩
      have B2 : Hid (Below w.heap.size w w2) := below_then (by first | exact B1.out | exact below_new (B1.out) _ | exact below_new2 (B1.out) _ _ | exact below_new (below_new2 (B1.out) _ _) _) h2
      clear h2
      go_wp2_with fail
      refine (A.out _ (T.out.keep (by first | exact B2.out | exact below_new (B2.out) _ | exact below_new2 (B2.out) _ _ | exact below_new (below_new2 (B2.out) _ _) _))).mono ?_
      rintro e w3 ⟨rfl, h3⟩
      have B3 : Hid (Below w.heap.size w w3) := below_then (by first | exact B2.out | exact below_new (B2.out) _ | exact below_new2 (B2.out) _ _ | exact below_new (below_new2 (B2.out) _ _) _) h3
      clear h3
      go_wp2_with fail
      go_ret
      exact ⟨by simp, by first | exact B3.out | exact below_new (B3.out) _ | exact below_new2 (B3.out) _ _ | exact below_new (below_new2 (B3.out) _ _) _⟩
    by_cases h5 : a1 = 5
    · subst h5
      obtain ⟨V, hV⟩ : ∃ V, packV a0p a0q a0u a0a a0d false a0g a0n a0f = V := ⟨_, rfl⟩
      have hv := packV_bd a0p a0q a0u a0a a0d false a0g a0n a0f c0 c1
      have hu := unp_pack a0p a0q a0u a0a a0d false a0g a0n a0f c0 c1
      rw [hV] at hv hu
      unfold unp at hu
      injection hu with hu
      have hu' := congrArg (fun (z : Array Value) => z[5]?) hu
      simp at hu'
      obtain ⟨o1, o2⟩ := bit_5 V hv.1 hv.2 hu'
      have hW : packV a0p a0q a0u a0a a0d true a0g a0n a0f = V + 128 := by rw [← hV]; unfold packV; rw [fl_true, fl_false]; omega
      have P1 : Hid (∀ w : World, Tab w → Calls Tryd.prog 8 #[.agg #[.bool a0p, .bool a0q, .bool a0u, .bool a0a, .bool a0d, .bool false, .bool a0g, .bool a0n, .int .i64 a0f]] w fun e w' => e = .returned (.tuple #[.int .u64 V, .int .i64 0]) ∧ Below w.heap.size w w') := fun w ht => by
        rw [← hV]; exact pack_ok a0p a0q a0u a0a a0d false a0g a0n a0f c0 c1 w ht
      have P2 : Hid (∀ w : World, Tab w → Calls Tryd.prog 8 #[.agg #[.bool a0p, .bool a0q, .bool a0u, .bool a0a, .bool a0d, .bool true, .bool a0g, .bool a0n, .int .i64 a0f]] w fun e w' => e = .returned (.tuple #[.int .u64 (V + 128), .int .i64 0]) ∧ Below w.heap.size w w') := fun w ht => by
        rw [← hW]; exact pack_ok a0p a0q a0u a0a a0d true a0g a0n a0f c0 c1 w ht
      clear hu hu' hV hW hv
      go_enter Tryd.func4, Tryd.ntmps4
      go_wp2_with fail
      refine (P1.out _ (T.out.keep (by first | exact Below.refl _ _ | exact below_new (Below.refl _ _) _ | exact below_new2 (Below.refl _ _) _ _ | exact below_new (below_new2 (Below.refl _ _) _ _) _))).mono ?_
      rintro e w1 ⟨rfl, h1⟩
      have zf1 : w.heap.size + 1 < w1.heap.size := Nat.lt_of_lt_of_le (by first | (simp; done) | (simp; omega)) h1.size
      have cf1_0 : w1.cell? ⟨w.heap.size + 1, 0, none⟩ = some (.bool a0p) := cell_next h1 (by first | (simp; done) | (simp; omega)) (by first | (simp; done))
      have cf1_1 : w1.cell? ⟨w.heap.size + 1, 1, none⟩ = some (.bool a0q) := cell_next h1 (by first | (simp; done) | (simp; omega)) (by first | (simp; done))
      have cf1_2 : w1.cell? ⟨w.heap.size + 1, 2, none⟩ = some (.bool a0u) := cell_next h1 (by first | (simp; done) | (simp; omega)) (by first | (simp; done))
      have cf1_3 : w1.cell? ⟨w.heap.size + 1, 3, none⟩ = some (.bool a0a) := cell_next h1 (by first | (simp; done) | (simp; omega)) (by first | (simp; done))
      have cf1_4 : w1.cell? ⟨w.heap.size + 1, 4, none⟩ = some (.bool a0d) := cell_next h1 (by first | (simp; done) | (simp; omega)) (by first | (simp; done))
      have cf1_5 : w1.cell? ⟨w.heap.size + 1, 5, none⟩ = some (.bool true) := cell_next h1 (by first | (simp; done) | (simp; omega)) (by first | (simp; done))
      have cf1_6 : w1.cell? ⟨w.heap.size + 1, 6, none⟩ = some (.bool a0g) := cell_next h1 (by first | (simp; done) | (simp; omega)) (by first | (simp; done))
      have cf1_7 : w1.cell? ⟨w.heap.size + 1, 7, none⟩ = some (.bool a0n) := cell_next h1 (by first | (simp; done) | (simp; omega)) (by first | (simp; done))
      have cf1_8 : w1.cell? ⟨w.heap.size + 1, 8, none⟩ = some (.int .i64 a0f) := cell_next h1 (by first | (simp; done) | (simp; omega)) (by first | (simp; done))
      have B1 : Hid (Below w.heap.size w w1) := below_then (by first | exact Below.refl _ _ | exact below_new (Below.refl _ _) _ | exact below_new2 (Below.refl _ _) _ _ | exact below_new (below_new2 (Below.refl _ _) _ _) _) h1
      clear h1
      go_wp2_with fail
      refine (P2.out _ (T.out.keep (by first | exact B1.out | exact below_new (B1.out) _ | exact below_new2 (B1.out) _ _ | exact below_new (below_new2 (B1.out) _ _) _))).mono ?_
      rintro e w2 ⟨rfl, h2⟩
      have B2 : Hid (Below w.heap.size w w2) := below_then (by first | exact B1.out | exact below_new (B1.out) _ | exact below_new2 (B1.out) _ _ | exact below_new (below_new2 (B1.out) _ _) _) h2
      clear h2
      go_wp2_with fail
      refine (A.out _ (T.out.keep (by first | exact B2.out | exact below_new (B2.out) _ | exact below_new2 (B2.out) _ _ | exact below_new (below_new2 (B2.out) _ _) _))).mono ?_
      rintro e w3 ⟨rfl, h3⟩
      have B3 : Hid (Below w.heap.size w w3) := below_then (by first | exact B2.out | exact below_new (B2.out) _ | exact below_new2 (B2.out) _ _ | exact below_new (below_new2 (B2.out) _ _) _) h3
      clear h3
      go_wp2_with fail
      go_ret
      exact ⟨by simp, by first | exact B3.out | exact below_new (B3.out) _ | exact below_new2 (B3.out) _ _ | exact below_new (below_new2 (B3.out) _ _) _⟩
    by_cases h6 : a1 = 6
    · subst h6
      obtain ⟨V, hV⟩ : ∃ V, packV a0p a0q a0u a0a a0d a0l false a0n a0f = V := ⟨_, rfl⟩
      have hv := packV_bd a0p a0q a0u a0a a0d a0l false a0n a0f c0 c1
      have hu := unp_pack a0p a0q a0u a0a a0d a0l false a0n a0f c0 c1
      rw [hV] at hv hu
      unfold unp at hu
      injection hu with hu
      have hu' := congrArg (fun (z : Array Value) => z[6]?) hu
      simp at hu'
      obtain ⟨o1, o2⟩ := bit_6 V hv.1 hv.2 hu'
      have hW : packV a0p a0q a0u a0a a0d a0l true a0n a0f = V + 256 := by rw [← hV]; unfold packV; rw [fl_true, fl_false]; omega
      have P1 : Hid (∀ w : World, Tab w → Calls Tryd.prog 8 #[.agg #[.bool a0p, .bool a0q, .bool a0u, .bool a0a, .bool a0d, .bool a0l, .bool false, .bool a0n, .int .i64 a0f]] w fun e w' => e = .returned (.tuple #[.int .u64 V, .int .i64 0]) ∧ Below w.heap.size w w') := fun w ht => by
        rw [← hV]; exact pack_ok a0p a0q a0u a0a a0d a0l false a0n a0f c0 c1 w ht
      have P2 : Hid (∀ w : World, Tab w → Calls Tryd.prog 8 #[.agg #[.bool a0p, .bool a0q, .bool a0u, .bool a0a, .bool a0d, .bool a0l, .bool true, .bool a0n, .int .i64 a0f]] w fun e w' => e = .returned (.tuple #[.int .u64 (V + 256), .int .i64 0]) ∧ Below w.heap.size w w') := fun w ht => by
        rw [← hW]; exact pack_ok a0p a0q a0u a0a a0d a0l true a0n a0f c0 c1 w ht
      clear hu hu' hV hW hv
      go_enter Tryd.func4, Tryd.ntmps4
      go_wp2_with fail
      refine (P1.out _ (T.out.keep (by first | exact Below.refl _ _ | exact below_new (Below.refl _ _) _ | exact below_new2 (Below.refl _ _) _ _ | exact below_new (below_new2 (Below.refl _ _) _ _) _))).mono ?_
      rintro e w1 ⟨rfl, h1⟩
      have zf1 : w.heap.size + 1 < w1.heap.size := Nat.lt_of_lt_of_le (by first | (simp; done) | (simp; omega)) h1.size
      have cf1_0 : w1.cell? ⟨w.heap.size + 1, 0, none⟩ = some (.bool a0p) := cell_next h1 (by first | (simp; done) | (simp; omega)) (by first | (simp; done))
      have cf1_1 : w1.cell? ⟨w.heap.size + 1, 1, none⟩ = some (.bool a0q) := cell_next h1 (by first | (simp; done) | (simp; omega)) (by first | (simp; done))
      have cf1_2 : w1.cell? ⟨w.heap.size + 1, 2, none⟩ = some (.bool a0u) := cell_next h1 (by first | (simp; done) | (simp; omega)) (by first | (simp; done))
      have cf1_3 : w1.cell? ⟨w.heap.size + 1, 3, none⟩ = some (.bool a0a) := cell_next h1 (by first | (simp; done) | (simp; omega)) (by first | (simp; done))
      have cf1_4 : w1.cell? ⟨w.heap.size + 1, 4, none⟩ = some (.bool a0d) := cell_next h1 (by first | (simp; done) | (simp; omega)) (by first | (simp; done))
      have cf1_5 : w1.cell? ⟨w.heap.size + 1, 5, none⟩ = some (.bool a0l) := cell_next h1 (by first | (simp; done) | (simp; omega)) (by first | (simp; done))
      have cf1_6 : w1.cell? ⟨w.heap.size + 1, 6, none⟩ = some (.bool true) := cell_next h1 (by first | (simp; done) | (simp; omega)) (by first | (simp; done))
      have cf1_7 : w1.cell? ⟨w.heap.size + 1, 7, none⟩ = some (.bool a0n) := cell_next h1 (by first | (simp; done) | (simp; omega)) (by first | (simp; done))
      have cf1_8 : w1.cell? ⟨w.heap.size + 1, 8, none⟩ = some (.int .i64 a0f) := cell_next h1 (by first | (simp; done) | (simp; omega)) (by first | (simp; done))
      have B1 : Hid (Below w.heap.size w w1) := below_then (by first | exact Below.refl _ _ | exact below_new (Below.refl _ _) _ | exact below_new2 (Below.refl _ _) _ _ | exact below_new (below_new2 (Below.refl _ _) _ _) _) h1
      clear h1
      go_wp2_with fail
      refine (P2.out _ (T.out.keep (by first | exact B1.out | exact below_new (B1.out) _ | exact below_new2 (B1.out) _ _ | exact below_new (below_new2 (B1.out) _ _) _))).mono ?_
      rintro e w2 ⟨rfl, h2⟩
      have B2 : Hid (Below w.heap.size w w2) := below_then (by first | exact B1.out | exact below_new (B1.out) _ | exact below_new2 (B1.out) _ _ | exact below_new (below_new2 (B1.out) _ _) _) h2
      clear h2
      go_wp2_with fail
      refine (A.out _ (T.out.keep (by first | exact B2.out | exact below_new (B2.out) _ | exact below_new2 (B2.out) _ _ | exact below_new (below_new2 (B2.out) _ _) _))).mono ?_
      rintro e w3 ⟨rfl, h3⟩
      have B3 : Hid (Below w.heap.size w w3) := below_then (by first | exact B2.out | exact below_new (B2.out) _ | exact below_new2 (B2.out) _ _ | exact below_new (below_new2 (B2.out) _ _) _) h3
      clear h3
      go_wp2_with fail
      go_ret
      exact ⟨by simp, by first | exact B3.out | exact below_new (B3.out) _ | exact below_new2 (B3.out) _ _ | exact below_new (below_new2 (B3.out) _ _) _⟩
    by_cases h7 : a1 = 7
    · subst h7
      obtain ⟨V, hV⟩ : ∃ V, packV a0p a0q a0u a0a a0d a0l a0g false a0f = V := ⟨_, rfl⟩
      have hv := packV_bd a0p a0q a0u a0a a0d a0l a0g false a0f c0 c1
      have hu := unp_pack a0p a0q a0u a0a a0d a0l a0g false a0f c0 c1
      rw [hV] at hv hu
      unfold unp at hu
      injection hu with hu
      have hu' := congrArg (fun (z : Array Value) => z[7]?) hu
      simp at hu'
      obtain ⟨o1, o2⟩ := bit_7 V hv.1 hv.2 hu'
      have hW : packV a0p a0q a0u a0a a0d a0l a0g true a0f = V + 9223372036854775808 := by rw [← hV]; unfold packV; rw [fl_true, fl_false]; omega
      have P1 : Hid (∀ w : World, Tab w → Calls Tryd.prog 8 #[.agg #[.bool a0p, .bool a0q, .bool a0u, .bool a0a, .bool a0d, .bool a0l, .bool a0g, .bool false, .int .i64 a0f]] w fun e w' => e = .returned (.tuple #[.int .u64 V, .int .i64 0]) ∧ Below w.heap.size w w') := fun w ht => by
        rw [← hV]; exact pack_ok a0p a0q a0u a0a a0d a0l a0g false a0f c0 c1 w ht
      have P2 : Hid (∀ w : World, Tab w → Calls Tryd.prog 8 #[.agg #[.bool a0p, .bool a0q, .bool a0u, .bool a0a, .bool a0d, .bool a0l, .bool a0g, .bool true, .int .i64 a0f]] w fun e w' => e = .returned (.tuple #[.int .u64 (V + 9223372036854775808), .int .i64 0]) ∧ Below w.heap.size w w') := fun w ht => by
        rw [← hW]; exact pack_ok a0p a0q a0u a0a a0d a0l a0g true a0f c0 c1 w ht
      clear hu hu' hV hW hv
      go_enter Tryd.func4, Tryd.ntmps4
      go_wp2_with fail
      refine (P1.out _ (T.out.keep (by first | exact Below.refl _ _ | exact below_new (Below.refl _ _) _ | exact below_new2 (Below.refl _ _) _ _ | exact below_new (below_new2 (Below.refl _ _) _ _) _))).mono ?_
      rintro e w1 ⟨rfl, h1⟩
      have zf1 : w.heap.size + 1 < w1.heap.size := Nat.lt_of_lt_of_le (by first | (simp; done) | (simp; omega)) h1.size
      have cf1_0 : w1.cell? ⟨w.heap.size + 1, 0, none⟩ = some (.bool a0p) := cell_next h1 (by first | (simp; done) | (simp; omega)) (by first | (simp; done))
      have cf1_1 : w1.cell? ⟨w.heap.size + 1, 1, none⟩ = some (.bool a0q) := cell_next h1 (by first | (simp; done) | (simp; omega)) (by first | (simp; done))
      have cf1_2 : w1.cell? ⟨w.heap.size + 1, 2, none⟩ = some (.bool a0u) := cell_next h1 (by first | (simp; done) | (simp; omega)) (by first | (simp; done))
      have cf1_3 : w1.cell? ⟨w.heap.size + 1, 3, none⟩ = some (.bool a0a) := cell_next h1 (by first | (simp; done) | (simp; omega)) (by first | (simp; done))
      have cf1_4 : w1.cell? ⟨w.heap.size + 1, 4, none⟩ = some (.bool a0d) := cell_next h1 (by first | (simp; done) | (simp; omega)) (by first | (simp; done))
      have cf1_5 : w1.cell? ⟨w.heap.size + 1, 5, none⟩ = some (.bool a0l) := cell_next h1 (by first | (simp; done) | (simp; omega)) (by first | (simp; done))
      have cf1_6 : w1.cell? ⟨w.heap.size + 1, 6, none⟩ = some (.bool a0g) := cell_next h1 (by first | (simp; done) | (simp; omega)) (by first | (simp; done))
      have cf1_7 : w1.cell? ⟨w.heap.size + 1, 7, none⟩ = some (.bool true) := cell_next h1 (by first | (simp; done) | (simp; omega)) (by first | (simp; done))
      have cf1_8 : w1.cell? ⟨w.heap.size + 1, 8, none⟩ = some (.int .i64 a0f) := cell_next h1 (by first | (simp; done) | (simp; omega)) (by first | (simp; done))
      have B1 : Hid (Below w.heap.size w w1) := below_then (by first | exact Below.refl _ _ | exact below_new (Below.refl _ _) _ | exact below_new2 (Below.refl _ _) _ _ | exact below_new (below_new2 (Below.refl _ _) _ _) _) h1
      clear h1
      go_wp2_with fail
      refine (P2.out _ (T.out.keep (by first | exact B1.out | exact below_new (B1.out) _ | exact below_new2 (B1.out) _ _ | exact below_new (below_new2 (B1.out) _ _) _))).mono ?_
      rintro e w2 ⟨rfl, h2⟩
      have B2 : Hid (Below w.heap.size w w2) := below_then (by first | exact B1.out | exact below_new (B1.out) _ | exact below_new2 (B1.out) _ _ | exact below_new (below_new2 (B1.out) _ _) _) h2
      clear h2
      go_wp2_with fail
      refine (A.out _ (T.out.keep (by first | exact B2.out | exact below_new (B2.out) _ | exact below_new2 (B2.out) _ _ | exact below_new (below_new2 (B2.out) _ _) _))).mono ?_
      rintro e w3 ⟨rfl, h3⟩
      have B3 : Hid (Below w.heap.size w w3) := below_then (by first | exact B2.out | exact below_new (B2.out) _ | exact below_new2 (B2.out) _ _ | exact below_new (below_new2 (B2.out) _ _) _) h3
      clear h3
      go_wp2_with fail
      go_ret
      exact ⟨by simp, by first | exact B3.out | exact below_new (B3.out) _ | exact below_new2 (B3.out) _ _ | exact below_new (below_new2 (B3.out) _ _) _⟩
    have n0 : (a1 == 0) = false := by simp [h0]
    have n1 : (a1 == 1) = false := by simp [h1]
    have n2 : (a1 == 2) = false := by simp [h2]
    have n3 : (a1 == 3) = false := by simp [h3]
    have n4 : (a1 == 4) = false := by simp [h4]
    have n5 : (a1 == 5) = false := by simp [h5]
    have n6 : (a1 == 6) = false := by simp [h6]
    have n7 : (a1 == 7) = false := by simp [h7]
    clear h0 h1 h2 h3 h4 h5 h6 h7
    go_enter Tryd.func4, Tryd.ntmps4
    go_wp2_with fail
    refine (A.out _ (T.out.keep (by first | exact Below.refl _ _ | exact below_new (Below.refl _ _) _ | exact below_new2 (Below.refl _ _) _ _ | exact below_new (below_new2 (Below.refl _ _) _ _) _))).mono ?_
    rintro e w1 ⟨rfl, h1⟩
    have B1 : Hid (Below w.heap.size w w1) := below_then (by first | exact Below.refl _ _ | exact below_new (Below.refl _ _) _ | exact below_new2 (Below.refl _ _) _ _ | exact below_new (below_new2 (Below.refl _ _) _ _) _) h1
    clear h1
    go_wp2_with fail
    go_ret
    exact ⟨rfl, by first | exact B1.out | exact below_new (B1.out) _ | exact below_new2 (B1.out) _ _ | exact below_new (below_new2 (B1.out) _ _) _⟩
  · by_cases c0 : a0f < 0
    · clear c
      go_enter Tryd.func4, Tryd.ntmps4
      go_wp2_with fail
      refine (A.out _ (T.out.keep (by first | exact Below.refl _ _ | exact below_new (Below.refl _ _) _ | exact below_new2 (Below.refl _ _) _ _ | exact below_new (below_new2 (Below.refl _ _) _ _) _))).mono ?_
      rintro e w1 ⟨rfl, h1⟩
      have B1 : Hid (Below w.heap.size w w1) := below_then (by first | exact Below.refl _ _ | exact below_new (Below.refl _ _) _ | exact below_new2 (Below.refl _ _) _ _ | exact below_new (below_new2 (Below.refl _ _) _ _) _) h1
      clear h1
      go_wp2_with fail
      go_ret
      exact ⟨rfl, by first | exact B1.out | exact below_new (B1.out) _ | exact below_new2 (B1.out) _ _ | exact below_new (below_new2 (B1.out) _ _) _⟩
    · have c1 : 1048576 ≤ a0f := by omega
      clear c
      go_enter Tryd.func4, Tryd.ntmps4
      go_wp2_with fail
      refine (A.out _ (T.out.keep (by first | exact Below.refl _ _ | exact below_new (Below.refl _ _) _ | exact below_new2 (Below.refl _ _) _ _ | exact below_new (below_new2 (Below.refl _ _) _ _) _))).mono ?_
      rintro e w1 ⟨rfl, h1⟩
      have B1 : Hid (Below w.heap.size w w1) := below_then (by first | exact Below.refl _ _ | exact below_new (Below.refl _ _) _ | exact below_new2 (Below.refl _ _) _ _ | exact below_new (below_new2 (Below.refl _ _) _ _) _) h1
      clear h1
      go_wp2_with fail
      go_ret
      exact ⟨rfl, by first | exact B1.out | exact below_new (B1.out) _ | exact below_new2 (B1.out) _ _ | exact below_new (below_new2 (B1.out) _ _) _⟩

set_option maxRecDepth 100000 in
theorem lifted (os : Os) (started : os.Started) (H : Type) (enc : TypeId × Value → H) :
    ReturnsInHanded {} Tryd.checked os 4 .any (fun w args => (Rows.pteBitsSpec.pre enc Tryd.prog Tryd.f4 [] false w args ∧ laidMetH Tryd.prog laidL w) ∧ sizedMet enc Tryd.prog Tryd.f4 (OpenSpec.ofChange Rows.pteBitsSpec) false w args)
      (Rows.pteBitsSpec.post enc Tryd.prog Tryd.f4 false true false false) := by
  refine returnsInHanded_of_change_and (C := Tryd.checked) (X := fun w _ => laidMetH Tryd.prog laidL w) (fun _ _ _ hh h => h.of_heap hh) own started (by kernel_rfl) Tryd.func4
    (ChangeSpec.witness_shaped (enc := enc) (C := Tryd.checked) (os := os) (X := fun w _ => laidMetH Tryd.prog laidL w) false (World.doorLaid Tryd.prog 400 os) #[.agg #[.bool false, .bool false, .bool false, .bool false, .bool false, .bool false, .bool false, .bool false, .int .i64 0], .int .i64 0] 8 rfl (World.shaped_of_RefB (by kernel_rfl) (by kernel_rfl)) (by kernel_rfl) (by kernel_rfl) (by kernel_rfl) (door_met os _)) ?_
  intro W base args ds gs before hval0 hW _ _ hL _
  have hval : ∀ (j : Nat) t v, Tryd.f4.params[j]? = some t → args[j]? = some v → Value.okWide Tryd.prog W .any base t v := hval0
  have hW' := hW
  obtain ⟨p, q, hA0, hV, hbef, hfz, hnd⟩ := hW
  have hA : DataW.TrodAll enc Tryd.prog W 0 (fun _ => true) true Tryd.f4.params.toList args.toList ds p := hA0
  have hAk := hA
  have hlt : ∀ x ∈ p, x.block < W.heap.size := fun x hx => hW'.lt x (by rw [hbef]; exact List.mem_append_left _ hx)
  rw [Tryd.params4] at hA hval
  obtain ⟨v0, vs0, d0, ds0, p0, q0, hargs, rfl, hp0, h0, r0⟩ := trodAll_cons hA
  obtain ⟨v1, vs1, d1, ds1, p1, q1, rfl, rfl, hp1, h1, r1⟩ := trodAll_cons r0
  obtain ⟨rfl, rfl, hpz⟩ := trodAll_nil r1
  obtain rfl : args = #[v0, v1] := by cases args; simp_all
  obtain ⟨rfl, rfl⟩ := trodVars_none hV
  obtain ⟨a0p, a0q, a0u, a0a, a0d, a0l, a0g, a0n, a0f, rfl, w0⟩ := open_entry (hval 0 30 v0 rfl rfl) h0
  obtain ⟨a1, rfl, _, _, w1⟩ := open_int Tryd.underlying3 (hval 1 3 v1 rfl rfl) h1
  clear hA0 hval0
  refine (walk a0p a0q a0u a0a a0d a0l a0g a0n a0f w0 a1 w1 W (of_laid hL)).mono fun e W' ⟨he, hg⟩ => ?_
  subst he
  exact ⟨_, rfl, ⟨_, _, _, [], p, [], hW', (trodAll_cons_mk (shut_bool Tryd.underlying4 _) trodAll_mk0), args_stay laidOut hg (by kernel_rfl) hAk hlt, rfl, hg.frame _, fun h => by cases h⟩⟩

theorem over : Rows.pteBitsRow.holds Tryd.pinned (OpenSpec.ofChange Rows.pteBitsSpec) :=
  OpenClaim.holds_of_wide 4 Tryd.f4 rfl rfl rfl rfl rfl rfl rfl ⟨rfl, rfl, rfl, rfl, rfl⟩ rfl rfl rfl rfl rfl (by kernel_rfl) Tryd.func4 (by kernel_rfl)
    (of_decide_eq_true (by kernel_rfl)) (by unfold Func.isWrapper; first | (rw [if_pos (by decide +kernel)]; kernel_rfl) | (rw [if_neg (by decide +kernel)]; exact ⟨rfl, rfl⟩))
    (fun os started H enc _ => lifted os started H enc)

theorem proved : Rows.PteBitsCardSaid :=
  Claim7.holds_tied_plain_at .later [] [.data] true (true, "9ed83ff48ac6890a3ed9680d7f8e0cf9fe25f4c2e3898ec45edd79a0e356e5a9") false
    over (fun _ h => by cases h) (by kernel_rfl) (fun _ h => by cases h) pteBits_row_tie rfl ⟨rfl, rfl⟩ (by kernel_rfl) rfl
    (fun f fn hf hfn => by
      obtain rfl : f = 4 := Option.some.inj ((show Tryd.prog.funcNamed "demesne/demesnelaw03.PteBits" = some 4 by kernel_rfl).symm.trans hf) |>.symm
      obtain rfl : fn = Tryd.f4 := (Option.some.inj (Tryd.func4.symm.trans hfn)).symm
      exact ⟨by kernel_rfl, fun j t ht => by
        rw [Tryd.params4] at ht
        have hm : t ∈ [30, 3] := by simpa using Array.mem_of_getElem? ht
        have hall : ([30, 3].all fun u => !Tryd.prog.wantsStandIn u) = true := by kernel_rfl
        exact (show Tryd.prog.wantsStandIn t = false by simpa using List.all_eq_true.1 hall t hm)⟩)
    (by kernel_rfl)
#print axioms proved
end Go.Proofs.YtnjoiknfaibheabDoor.pteBits
