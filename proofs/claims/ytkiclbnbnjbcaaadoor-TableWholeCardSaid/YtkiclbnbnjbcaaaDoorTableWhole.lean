/- TableWhole: a page for whose tables there is no room is refused, and all is as it was. No condition. -/
import Derived.Test.YtkiclbnbnjbcaaaDoorRows
import Derived.Test.YtkiclbnbnjbcaaaDoorCards
import Derived.Test.YtkiclbnbnjbcaaaDoorTie
import Derived.ProofKit
import Derived.OpenShut
import Derived.Stop.Joined
import Derived.SevenTiedAt
import Derived.Test.YtkiclbnbnjbcaaaDoorME
namespace Go.Proofs.YtkiclbnbnjbcaaaDoor.tableWhole
open Go.ChangeShapes Go.WideShapes Go.ChangeAt Go.RowKit
set_option linter.unusedSimpArgs false
set_option linter.unusedVariables false
open Go.Proofs.YtkiclbnbnjbcaaaDoor.Tt
set_option maxRecDepth 8000
theorem below_dr (W : World) : Below W.heap.size W W.drew := ⟨rfl, rfl, rfl, Nat.le_refl _, fun _ _ => rfl⟩
theorem kx_drew (X : Nat → Prop) (W : World) : Kx X W W.drew := ⟨rfl, rfl, rfl, Nat.le_refl _, fun _ _ => rfl⟩
theorem nePermS (a b c : Bool) (W : World) : (binOp .neq 40 (.agg #[.bool a, .bool b, .bool c]) (.agg #[.bool a, .bool b, .bool c])).run Tryd.prog W = .ok (.bool false) W := by
  cases a <;> cases b <;> cases c <;> kernel_rfl
theorem st_bel {X : Nat → Prop} {m : Pm} {root k F n : Nat} {R U : Int} {lf : Nat → Option Lf} {W w : World} (h : ∃ (s : Ps) (tab : Nat → Nat → Option Nat), St X m root k R U F s tab lf W ∧ s.q ≤ n) (hb : Below W.heap.size W w) : ∃ (s : Ps) (tab : Nat → Nat → Option Nat), St X m root k R U F s tab lf w ∧ s.q ≤ n := by
  obtain ⟨s, tab, h1, h2⟩ := h
  exact ⟨s, tab, h1.below hb, h2⟩
theorem lfs_none (p : Nat) (o : Option Lf) {q : Nat} (h : q ≠ p) : lfSet (fun _ => none) p o q = none := lf_other h

set_option maxHeartbeats 8000000 in
theorem walk (s0 : Ac) (w0p : (Lit.int .i64 s0.pg).wf = true) (w0f : (Lit.int .i64 s0.fr).wf = true) (s1 : Ac) (w1p : (Lit.int .i64 s1.pg).wf = true) (w1f : (Lit.int .i64 s1.fr).wf = true) (a2 : Int) (w2 : (Lit.int .i64 a2).wf = true) (w : World) (ht : Tab w)  :
    Calls Tryd.prog 7 #[s0.val, s1.val, .int .i64 a2] w fun e w' => e = .returned (.bool true) ∧ Below w.heap.size w w' := by
  have AW : Hid (∀ W : World, Tab W → Calls Tryd.prog 10 #[] W fun e w' => e = .returned (.bool true) ∧ Below W.heap.size W w') := fun W t => awake_any W t
  have HT : Hid (Tab w) := ht
  have WP : Hid (0 < w.heap.size) := ht.1
  obtain ⟨k0, p0, f0, a0, b0, c0⟩ := s0
  obtain ⟨k1, p1, f1, a1, b1, c1⟩ := s1
  simp only at w0p w0f w1p w1f
  have HB0 : Below w.heap.size w ((w.alloc (.cells #[.int .i64 k0, .int .i64 p0, .int .i64 f0, .bool a0, .bool b0, .bool c0] 42)).alloc (.cells #[.int .i64 k1, .int .i64 p1, .int .i64 f1, .bool a1, .bool b1, .bool c1] 42)) := below_then (Go.Joins.below_alloc1 _ _) (Go.Joins.below_alloc1 _ _)
  have z1 : (w.alloc (.cells #[.int .i64 k0, .int .i64 p0, .int .i64 f0, .bool a0, .bool b0, .bool c0] 42)).heap.size = w.heap.size + 1 := World.size_alloc _ _
  have F0 : Hid (Blk ((w.alloc (.cells #[.int .i64 k0, .int .i64 p0, .int .i64 f0, .bool a0, .bool b0, .bool c0] 42)).alloc (.cells #[.int .i64 k1, .int .i64 p1, .int .i64 f1, .bool a1, .bool b1, .bool c1] 42)) w.heap.size [.int .i64 k0, .int .i64 p0, .int .i64 f0, .bool a0, .bool b0, .bool c0] 42 ∧ Blk ((w.alloc (.cells #[.int .i64 k0, .int .i64 p0, .int .i64 f0, .bool a0, .bool b0, .bool c0] 42)).alloc (.cells #[.int .i64 k1, .int .i64 p1, .int .i64 f1, .bool a1, .bool b1, .bool c1] 42)) (w.heap.size + 1) [.int .i64 k1, .int .i64 p1, .int .i64 f1, .bool a1, .bool b1, .bool c1] 42 ∧ Below w.heap.size w ((w.alloc (.cells #[.int .i64 k0, .int .i64 p0, .int .i64 f0, .bool a0, .bool b0, .bool c0] 42)).alloc (.cells #[.int .i64 k1, .int .i64 p1, .int .i64 f1, .bool a1, .bool b1, .bool c1] 42)) ∧ Tab ((w.alloc (.cells #[.int .i64 k0, .int .i64 p0, .int .i64 f0, .bool a0, .bool b0, .bool c0] 42)).alloc (.cells #[.int .i64 k1, .int .i64 p1, .int .i64 f1, .bool a1, .bool b1, .bool c1] 42)) ∧ w.heap.size + 1 < ((w.alloc (.cells #[.int .i64 k0, .int .i64 p0, .int .i64 f0, .bool a0, .bool b0, .bool c0] 42)).alloc (.cells #[.int .i64 k1, .int .i64 p1, .int .i64 f1, .bool a1, .bool b1, .bool c1] 42)).heap.size) := ⟨(Blk.made w [.int .i64 k0, .int .i64 p0, .int .i64 f0, .bool a0, .bool b0, .bool c0] 42).below (Go.Joins.below_alloc1 _ _), by rw [← z1]; exact Blk.made _ [.int .i64 k1, .int .i64 p1, .int .i64 f1, .bool a1, .bool b1, .bool c1] 42, HB0, ht.below HB0 ht.1, by rw [World.size_alloc, z1]; omega⟩
  have PC : Hid _ := purse_ok ((w.alloc (.cells #[.int .i64 k0, .int .i64 p0, .int .i64 f0, .bool a0, .bool b0, .bool c0] 42)).alloc (.cells #[.int .i64 k1, .int .i64 p1, .int .i64 f1, .bool a1, .bool b1, .bool c1] 42)) F0.out.2.2.2.1 40 40 (by omega) (by omega) (by omega) (by omega)
  clear HB0 z1 ht w0p w0f w1p w1f
  by_cases g0 : a2 < 0
  · have d0 : decide (a2 < 0) = true := by simp [g0]
    go_enter Tryd.func7, Tryd.ntmps7
    go_upto_region 1 with fail
    generalize ((w.alloc (.cells #[.int .i64 k0, .int .i64 p0, .int .i64 f0, .bool a0, .bool b0, .bool c0] 42)).alloc (.cells #[.int .i64 k1, .int .i64 p1, .int .i64 f1, .bool a1, .bool b1, .bool c1] 42)) = wA at F0 PC ⊢
    obtain ⟨D, hD⟩ : ∃ D, w.heap.size + 1 = D := ⟨_, rfl⟩
    obtain ⟨A, hA⟩ : ∃ A, w.heap.size = A := ⟨_, rfl⟩
    rw [hD] at F0 ⊢
    rw [hA] at F0 ⊢
    have LA : Hid (Below w.heap.size w wA ∧ Tab wA) := ⟨by rw [hA]; exact F0.out.2.2.1, F0.out.2.2.2.1⟩
    have FA : Hid (Blk wA A [.int .i64 k0, .int .i64 p0, .int .i64 f0, .bool a0, .bool b0, .bool c0] 42) := F0.out.1
    have FD : Hid (Blk wA D [.int .i64 k1, .int .i64 p1, .int .i64 f1, .bool a1, .bool b1, .bool c1] 42) := F0.out.2.1
    clear hD hA F0
    have y0 := FA.out
    have y00 : wA.cell? ⟨A, 0, none⟩ = some (.int .i64 k0) := y0.cell 0
    have y01 : wA.cell? ⟨A, 1, none⟩ = some (.int .i64 p0) := y0.cell 1
    have y02 : wA.cell? ⟨A, 2, none⟩ = some (.int .i64 f0) := y0.cell 2
    have y03 : wA.cell? ⟨A, 3, none⟩ = some (.bool a0) := y0.cell 3
    have y04 : wA.cell? ⟨A, 4, none⟩ = some (.bool b0) := y0.cell 4
    have y05 : wA.cell? ⟨A, 5, none⟩ = some (.bool c0) := y0.cell 5
    have l0 := y0.lt
    clear y0
    have y1 := FD.out
    have y10 : wA.cell? ⟨D, 0, none⟩ = some (.int .i64 k1) := y1.cell 0
    have y11 : wA.cell? ⟨D, 1, none⟩ = some (.int .i64 p1) := y1.cell 1
    have y12 : wA.cell? ⟨D, 2, none⟩ = some (.int .i64 f1) := y1.cell 2
    have y13 : wA.cell? ⟨D, 3, none⟩ = some (.bool a1) := y1.cell 3
    have y14 : wA.cell? ⟨D, 4, none⟩ = some (.bool b1) := y1.cell 4
    have y15 : wA.cell? ⟨D, 5, none⟩ = some (.bool c1) := y1.cell 5
    have l1 := y1.lt
    clear y1
    go_wp2_with fail
    refine Calls.mono (AW.out wA LA.out.2) ?_
    rintro e w1 ⟨rfl, hb⟩
    have HB1 : Hid (Below w.heap.size w w1) := below_then LA.out.1 hb
    clear hb
    go_wp2_with fail
    go_ret
    exact ⟨rfl, HB1.out⟩
  have d0 : decide (a2 < 0) = false := by simp; omega
  by_cases g1 : 10 < a2
  · have d1 : decide (10 < a2) = true := by simp [g1]
    go_enter Tryd.func7, Tryd.ntmps7
    go_upto_region 1 with fail
    generalize ((w.alloc (.cells #[.int .i64 k0, .int .i64 p0, .int .i64 f0, .bool a0, .bool b0, .bool c0] 42)).alloc (.cells #[.int .i64 k1, .int .i64 p1, .int .i64 f1, .bool a1, .bool b1, .bool c1] 42)) = wA at F0 PC ⊢
    obtain ⟨D, hD⟩ : ∃ D, w.heap.size + 1 = D := ⟨_, rfl⟩
    obtain ⟨A, hA⟩ : ∃ A, w.heap.size = A := ⟨_, rfl⟩
    rw [hD] at F0 ⊢
    rw [hA] at F0 ⊢
    have LA : Hid (Below w.heap.size w wA ∧ Tab wA) := ⟨by rw [hA]; exact F0.out.2.2.1, F0.out.2.2.2.1⟩
    have FA : Hid (Blk wA A [.int .i64 k0, .int .i64 p0, .int .i64 f0, .bool a0, .bool b0, .bool c0] 42) := F0.out.1
    have FD : Hid (Blk wA D [.int .i64 k1, .int .i64 p1, .int .i64 f1, .bool a1, .bool b1, .bool c1] 42) := F0.out.2.1
    clear hD hA F0
    have y0 := FA.out
    have y00 : wA.cell? ⟨A, 0, none⟩ = some (.int .i64 k0) := y0.cell 0
    have y01 : wA.cell? ⟨A, 1, none⟩ = some (.int .i64 p0) := y0.cell 1
    have y02 : wA.cell? ⟨A, 2, none⟩ = some (.int .i64 f0) := y0.cell 2
    have y03 : wA.cell? ⟨A, 3, none⟩ = some (.bool a0) := y0.cell 3
    have y04 : wA.cell? ⟨A, 4, none⟩ = some (.bool b0) := y0.cell 4
    have y05 : wA.cell? ⟨A, 5, none⟩ = some (.bool c0) := y0.cell 5
    have l0 := y0.lt
    clear y0
    have y1 := FD.out
    have y10 : wA.cell? ⟨D, 0, none⟩ = some (.int .i64 k1) := y1.cell 0
    have y11 : wA.cell? ⟨D, 1, none⟩ = some (.int .i64 p1) := y1.cell 1
    have y12 : wA.cell? ⟨D, 2, none⟩ = some (.int .i64 f1) := y1.cell 2
    have y13 : wA.cell? ⟨D, 3, none⟩ = some (.bool a1) := y1.cell 3
    have y14 : wA.cell? ⟨D, 4, none⟩ = some (.bool b1) := y1.cell 4
    have y15 : wA.cell? ⟨D, 5, none⟩ = some (.bool c1) := y1.cell 5
    have l1 := y1.lt
    clear y1
    go_wp2_with fail
    refine Calls.mono (AW.out wA LA.out.2) ?_
    rintro e w1 ⟨rfl, hb⟩
    have HB1 : Hid (Below w.heap.size w w1) := below_then LA.out.1 hb
    clear hb
    go_wp2_with fail
    go_ret
    exact ⟨rfl, HB1.out⟩
  have d1 : decide (10 < a2) = false := by simp; omega
  by_cases g2 : p0 < 0
  · have d2 : decide (p0 < 0) = true := by simp [g2]
    go_enter Tryd.func7, Tryd.ntmps7
    go_upto_region 1 with fail
    generalize ((w.alloc (.cells #[.int .i64 k0, .int .i64 p0, .int .i64 f0, .bool a0, .bool b0, .bool c0] 42)).alloc (.cells #[.int .i64 k1, .int .i64 p1, .int .i64 f1, .bool a1, .bool b1, .bool c1] 42)) = wA at F0 PC ⊢
    obtain ⟨D, hD⟩ : ∃ D, w.heap.size + 1 = D := ⟨_, rfl⟩
    obtain ⟨A, hA⟩ : ∃ A, w.heap.size = A := ⟨_, rfl⟩
    rw [hD] at F0 ⊢
    rw [hA] at F0 ⊢
    have LA : Hid (Below w.heap.size w wA ∧ Tab wA) := ⟨by rw [hA]; exact F0.out.2.2.1, F0.out.2.2.2.1⟩
    have FA : Hid (Blk wA A [.int .i64 k0, .int .i64 p0, .int .i64 f0, .bool a0, .bool b0, .bool c0] 42) := F0.out.1
    have FD : Hid (Blk wA D [.int .i64 k1, .int .i64 p1, .int .i64 f1, .bool a1, .bool b1, .bool c1] 42) := F0.out.2.1
    clear hD hA F0
    have y0 := FA.out
    have y00 : wA.cell? ⟨A, 0, none⟩ = some (.int .i64 k0) := y0.cell 0
    have y01 : wA.cell? ⟨A, 1, none⟩ = some (.int .i64 p0) := y0.cell 1
    have y02 : wA.cell? ⟨A, 2, none⟩ = some (.int .i64 f0) := y0.cell 2
    have y03 : wA.cell? ⟨A, 3, none⟩ = some (.bool a0) := y0.cell 3
    have y04 : wA.cell? ⟨A, 4, none⟩ = some (.bool b0) := y0.cell 4
    have y05 : wA.cell? ⟨A, 5, none⟩ = some (.bool c0) := y0.cell 5
    have l0 := y0.lt
    clear y0
    have y1 := FD.out
    have y10 : wA.cell? ⟨D, 0, none⟩ = some (.int .i64 k1) := y1.cell 0
    have y11 : wA.cell? ⟨D, 1, none⟩ = some (.int .i64 p1) := y1.cell 1
    have y12 : wA.cell? ⟨D, 2, none⟩ = some (.int .i64 f1) := y1.cell 2
    have y13 : wA.cell? ⟨D, 3, none⟩ = some (.bool a1) := y1.cell 3
    have y14 : wA.cell? ⟨D, 4, none⟩ = some (.bool b1) := y1.cell 4
    have y15 : wA.cell? ⟨D, 5, none⟩ = some (.bool c1) := y1.cell 5
    have l1 := y1.lt
    clear y1
    go_wp2_with fail
    refine Calls.mono (AW.out wA LA.out.2) ?_
    rintro e w1 ⟨rfl, hb⟩
    have HB1 : Hid (Below w.heap.size w w1) := below_then LA.out.1 hb
    clear hb
    go_wp2_with fail
    go_ret
    exact ⟨rfl, HB1.out⟩
  have d2 : decide (p0 < 0) = false := by simp; omega
  by_cases g3 : 34359738368 ≤ p0
  · have d3 : decide (34359738368 ≤ p0) = true := by simp [g3]
    go_enter Tryd.func7, Tryd.ntmps7
    go_upto_region 1 with fail
    generalize ((w.alloc (.cells #[.int .i64 k0, .int .i64 p0, .int .i64 f0, .bool a0, .bool b0, .bool c0] 42)).alloc (.cells #[.int .i64 k1, .int .i64 p1, .int .i64 f1, .bool a1, .bool b1, .bool c1] 42)) = wA at F0 PC ⊢
    obtain ⟨D, hD⟩ : ∃ D, w.heap.size + 1 = D := ⟨_, rfl⟩
    obtain ⟨A, hA⟩ : ∃ A, w.heap.size = A := ⟨_, rfl⟩
    rw [hD] at F0 ⊢
    rw [hA] at F0 ⊢
    have LA : Hid (Below w.heap.size w wA ∧ Tab wA) := ⟨by rw [hA]; exact F0.out.2.2.1, F0.out.2.2.2.1⟩
    have FA : Hid (Blk wA A [.int .i64 k0, .int .i64 p0, .int .i64 f0, .bool a0, .bool b0, .bool c0] 42) := F0.out.1
    have FD : Hid (Blk wA D [.int .i64 k1, .int .i64 p1, .int .i64 f1, .bool a1, .bool b1, .bool c1] 42) := F0.out.2.1
    clear hD hA F0
    have y0 := FA.out
    have y00 : wA.cell? ⟨A, 0, none⟩ = some (.int .i64 k0) := y0.cell 0
    have y01 : wA.cell? ⟨A, 1, none⟩ = some (.int .i64 p0) := y0.cell 1
    have y02 : wA.cell? ⟨A, 2, none⟩ = some (.int .i64 f0) := y0.cell 2
    have y03 : wA.cell? ⟨A, 3, none⟩ = some (.bool a0) := y0.cell 3
    have y04 : wA.cell? ⟨A, 4, none⟩ = some (.bool b0) := y0.cell 4
    have y05 : wA.cell? ⟨A, 5, none⟩ = some (.bool c0) := y0.cell 5
    have l0 := y0.lt
    clear y0
    have y1 := FD.out
    have y10 : wA.cell? ⟨D, 0, none⟩ = some (.int .i64 k1) := y1.cell 0
    have y11 : wA.cell? ⟨D, 1, none⟩ = some (.int .i64 p1) := y1.cell 1
    have y12 : wA.cell? ⟨D, 2, none⟩ = some (.int .i64 f1) := y1.cell 2
    have y13 : wA.cell? ⟨D, 3, none⟩ = some (.bool a1) := y1.cell 3
    have y14 : wA.cell? ⟨D, 4, none⟩ = some (.bool b1) := y1.cell 4
    have y15 : wA.cell? ⟨D, 5, none⟩ = some (.bool c1) := y1.cell 5
    have l1 := y1.lt
    clear y1
    go_wp2_with fail
    refine Calls.mono (AW.out wA LA.out.2) ?_
    rintro e w1 ⟨rfl, hb⟩
    have HB1 : Hid (Below w.heap.size w w1) := below_then LA.out.1 hb
    clear hb
    go_wp2_with fail
    go_ret
    exact ⟨rfl, HB1.out⟩
  have d3 : decide (34359738368 ≤ p0) = false := by simp; omega
  by_cases g4 : p1 < 0
  · have d4 : decide (p1 < 0) = true := by simp [g4]
    go_enter Tryd.func7, Tryd.ntmps7
    go_upto_region 1 with fail
    generalize ((w.alloc (.cells #[.int .i64 k0, .int .i64 p0, .int .i64 f0, .bool a0, .bool b0, .bool c0] 42)).alloc (.cells #[.int .i64 k1, .int .i64 p1, .int .i64 f1, .bool a1, .bool b1, .bool c1] 42)) = wA at F0 PC ⊢
    obtain ⟨D, hD⟩ : ∃ D, w.heap.size + 1 = D := ⟨_, rfl⟩
    obtain ⟨A, hA⟩ : ∃ A, w.heap.size = A := ⟨_, rfl⟩
    rw [hD] at F0 ⊢
    rw [hA] at F0 ⊢
    have LA : Hid (Below w.heap.size w wA ∧ Tab wA) := ⟨by rw [hA]; exact F0.out.2.2.1, F0.out.2.2.2.1⟩
    have FA : Hid (Blk wA A [.int .i64 k0, .int .i64 p0, .int .i64 f0, .bool a0, .bool b0, .bool c0] 42) := F0.out.1
    have FD : Hid (Blk wA D [.int .i64 k1, .int .i64 p1, .int .i64 f1, .bool a1, .bool b1, .bool c1] 42) := F0.out.2.1
    clear hD hA F0
    have y0 := FA.out
    have y00 : wA.cell? ⟨A, 0, none⟩ = some (.int .i64 k0) := y0.cell 0
    have y01 : wA.cell? ⟨A, 1, none⟩ = some (.int .i64 p0) := y0.cell 1
    have y02 : wA.cell? ⟨A, 2, none⟩ = some (.int .i64 f0) := y0.cell 2
    have y03 : wA.cell? ⟨A, 3, none⟩ = some (.bool a0) := y0.cell 3
    have y04 : wA.cell? ⟨A, 4, none⟩ = some (.bool b0) := y0.cell 4
    have y05 : wA.cell? ⟨A, 5, none⟩ = some (.bool c0) := y0.cell 5
    have l0 := y0.lt
    clear y0
    have y1 := FD.out
    have y10 : wA.cell? ⟨D, 0, none⟩ = some (.int .i64 k1) := y1.cell 0
    have y11 : wA.cell? ⟨D, 1, none⟩ = some (.int .i64 p1) := y1.cell 1
    have y12 : wA.cell? ⟨D, 2, none⟩ = some (.int .i64 f1) := y1.cell 2
    have y13 : wA.cell? ⟨D, 3, none⟩ = some (.bool a1) := y1.cell 3
    have y14 : wA.cell? ⟨D, 4, none⟩ = some (.bool b1) := y1.cell 4
    have y15 : wA.cell? ⟨D, 5, none⟩ = some (.bool c1) := y1.cell 5
    have l1 := y1.lt
    clear y1
    go_wp2_with fail
    refine Calls.mono (AW.out wA LA.out.2) ?_
    rintro e w1 ⟨rfl, hb⟩
    have HB1 : Hid (Below w.heap.size w w1) := below_then LA.out.1 hb
    clear hb
    go_wp2_with fail
    go_ret
    exact ⟨rfl, HB1.out⟩
  have d4 : decide (p1 < 0) = false := by simp; omega
  by_cases g5 : 34359738368 ≤ p1
  · have d5 : decide (34359738368 ≤ p1) = true := by simp [g5]
    go_enter Tryd.func7, Tryd.ntmps7
    go_upto_region 1 with fail
    generalize ((w.alloc (.cells #[.int .i64 k0, .int .i64 p0, .int .i64 f0, .bool a0, .bool b0, .bool c0] 42)).alloc (.cells #[.int .i64 k1, .int .i64 p1, .int .i64 f1, .bool a1, .bool b1, .bool c1] 42)) = wA at F0 PC ⊢
    obtain ⟨D, hD⟩ : ∃ D, w.heap.size + 1 = D := ⟨_, rfl⟩
    obtain ⟨A, hA⟩ : ∃ A, w.heap.size = A := ⟨_, rfl⟩
    rw [hD] at F0 ⊢
    rw [hA] at F0 ⊢
    have LA : Hid (Below w.heap.size w wA ∧ Tab wA) := ⟨by rw [hA]; exact F0.out.2.2.1, F0.out.2.2.2.1⟩
    have FA : Hid (Blk wA A [.int .i64 k0, .int .i64 p0, .int .i64 f0, .bool a0, .bool b0, .bool c0] 42) := F0.out.1
    have FD : Hid (Blk wA D [.int .i64 k1, .int .i64 p1, .int .i64 f1, .bool a1, .bool b1, .bool c1] 42) := F0.out.2.1
    clear hD hA F0
    have y0 := FA.out
    have y00 : wA.cell? ⟨A, 0, none⟩ = some (.int .i64 k0) := y0.cell 0
    have y01 : wA.cell? ⟨A, 1, none⟩ = some (.int .i64 p0) := y0.cell 1
    have y02 : wA.cell? ⟨A, 2, none⟩ = some (.int .i64 f0) := y0.cell 2
    have y03 : wA.cell? ⟨A, 3, none⟩ = some (.bool a0) := y0.cell 3
    have y04 : wA.cell? ⟨A, 4, none⟩ = some (.bool b0) := y0.cell 4
    have y05 : wA.cell? ⟨A, 5, none⟩ = some (.bool c0) := y0.cell 5
    have l0 := y0.lt
    clear y0
    have y1 := FD.out
    have y10 : wA.cell? ⟨D, 0, none⟩ = some (.int .i64 k1) := y1.cell 0
    have y11 : wA.cell? ⟨D, 1, none⟩ = some (.int .i64 p1) := y1.cell 1
    have y12 : wA.cell? ⟨D, 2, none⟩ = some (.int .i64 f1) := y1.cell 2
    have y13 : wA.cell? ⟨D, 3, none⟩ = some (.bool a1) := y1.cell 3
    have y14 : wA.cell? ⟨D, 4, none⟩ = some (.bool b1) := y1.cell 4
    have y15 : wA.cell? ⟨D, 5, none⟩ = some (.bool c1) := y1.cell 5
    have l1 := y1.lt
    clear y1
    go_wp2_with fail
    refine Calls.mono (AW.out wA LA.out.2) ?_
    rintro e w1 ⟨rfl, hb⟩
    have HB1 : Hid (Below w.heap.size w w1) := below_then LA.out.1 hb
    clear hb
    go_wp2_with fail
    go_ret
    exact ⟨rfl, HB1.out⟩
  have d5 : decide (34359738368 ≤ p1) = false := by simp; omega
  by_cases g6 : p0 = p1
  · have d6 : (p0 == p1) = true := by simpa using g6
    have d7 : decide (p0 = p1) = true := by simpa using g6
    clear g6
    go_enter Tryd.func7, Tryd.ntmps7
    go_upto_region 1 with fail
    generalize ((w.alloc (.cells #[.int .i64 k0, .int .i64 p0, .int .i64 f0, .bool a0, .bool b0, .bool c0] 42)).alloc (.cells #[.int .i64 k1, .int .i64 p1, .int .i64 f1, .bool a1, .bool b1, .bool c1] 42)) = wA at F0 PC ⊢
    obtain ⟨D, hD⟩ : ∃ D, w.heap.size + 1 = D := ⟨_, rfl⟩
    obtain ⟨A, hA⟩ : ∃ A, w.heap.size = A := ⟨_, rfl⟩
    rw [hD] at F0 ⊢
    rw [hA] at F0 ⊢
    have LA : Hid (Below w.heap.size w wA ∧ Tab wA) := ⟨by rw [hA]; exact F0.out.2.2.1, F0.out.2.2.2.1⟩
    have FA : Hid (Blk wA A [.int .i64 k0, .int .i64 p0, .int .i64 f0, .bool a0, .bool b0, .bool c0] 42) := F0.out.1
    have FD : Hid (Blk wA D [.int .i64 k1, .int .i64 p1, .int .i64 f1, .bool a1, .bool b1, .bool c1] 42) := F0.out.2.1
    clear hD hA F0
    have y0 := FA.out
    have y00 : wA.cell? ⟨A, 0, none⟩ = some (.int .i64 k0) := y0.cell 0
    have y01 : wA.cell? ⟨A, 1, none⟩ = some (.int .i64 p0) := y0.cell 1
    have y02 : wA.cell? ⟨A, 2, none⟩ = some (.int .i64 f0) := y0.cell 2
    have y03 : wA.cell? ⟨A, 3, none⟩ = some (.bool a0) := y0.cell 3
    have y04 : wA.cell? ⟨A, 4, none⟩ = some (.bool b0) := y0.cell 4
    have y05 : wA.cell? ⟨A, 5, none⟩ = some (.bool c0) := y0.cell 5
    have l0 := y0.lt
    clear y0
    have y1 := FD.out
    have y10 : wA.cell? ⟨D, 0, none⟩ = some (.int .i64 k1) := y1.cell 0
    have y11 : wA.cell? ⟨D, 1, none⟩ = some (.int .i64 p1) := y1.cell 1
    have y12 : wA.cell? ⟨D, 2, none⟩ = some (.int .i64 f1) := y1.cell 2
    have y13 : wA.cell? ⟨D, 3, none⟩ = some (.bool a1) := y1.cell 3
    have y14 : wA.cell? ⟨D, 4, none⟩ = some (.bool b1) := y1.cell 4
    have y15 : wA.cell? ⟨D, 5, none⟩ = some (.bool c1) := y1.cell 5
    have l1 := y1.lt
    clear y1
    go_wp2_with fail
    refine Calls.mono (AW.out wA LA.out.2) ?_
    rintro e w1 ⟨rfl, hb⟩
    have HB1 : Hid (Below w.heap.size w w1) := below_then LA.out.1 hb
    clear hb
    go_wp2_with fail
    go_ret
    exact ⟨rfl, HB1.out⟩
  have d6 : (p0 == p1) = false := by simpa using g6
  have d7 : ¬ p0 = p1 := g6
  go_enter Tryd.func7, Tryd.ntmps7
  go_upto_region 1 with fail
  generalize ((w.alloc (.cells #[.int .i64 k0, .int .i64 p0, .int .i64 f0, .bool a0, .bool b0, .bool c0] 42)).alloc (.cells #[.int .i64 k1, .int .i64 p1, .int .i64 f1, .bool a1, .bool b1, .bool c1] 42)) = wA at F0 PC ⊢
  obtain ⟨D, hD⟩ : ∃ D, w.heap.size + 1 = D := ⟨_, rfl⟩
  obtain ⟨A, hA⟩ : ∃ A, w.heap.size = A := ⟨_, rfl⟩
  rw [hD] at F0 ⊢
  rw [hA] at F0 ⊢
  have LA : Hid (Below w.heap.size w wA ∧ Tab wA) := ⟨by rw [hA]; exact F0.out.2.2.1, F0.out.2.2.2.1⟩
  have FA : Hid (Blk wA A [.int .i64 k0, .int .i64 p0, .int .i64 f0, .bool a0, .bool b0, .bool c0] 42) := F0.out.1
  have FD : Hid (Blk wA D [.int .i64 k1, .int .i64 p1, .int .i64 f1, .bool a1, .bool b1, .bool c1] 42) := F0.out.2.1
  clear hD hA F0
  have y0 := FA.out
  have y00 : wA.cell? ⟨A, 0, none⟩ = some (.int .i64 k0) := y0.cell 0
  have y01 : wA.cell? ⟨A, 1, none⟩ = some (.int .i64 p0) := y0.cell 1
  have y02 : wA.cell? ⟨A, 2, none⟩ = some (.int .i64 f0) := y0.cell 2
  have y03 : wA.cell? ⟨A, 3, none⟩ = some (.bool a0) := y0.cell 3
  have y04 : wA.cell? ⟨A, 4, none⟩ = some (.bool b0) := y0.cell 4
  have y05 : wA.cell? ⟨A, 5, none⟩ = some (.bool c0) := y0.cell 5
  have l0 := y0.lt
  clear y0
  have y1 := FD.out
  have y10 : wA.cell? ⟨D, 0, none⟩ = some (.int .i64 k1) := y1.cell 0
  have y11 : wA.cell? ⟨D, 1, none⟩ = some (.int .i64 p1) := y1.cell 1
  have y12 : wA.cell? ⟨D, 2, none⟩ = some (.int .i64 f1) := y1.cell 2
  have y13 : wA.cell? ⟨D, 3, none⟩ = some (.bool a1) := y1.cell 3
  have y14 : wA.cell? ⟨D, 4, none⟩ = some (.bool b1) := y1.cell 4
  have y15 : wA.cell? ⟨D, 5, none⟩ = some (.bool c1) := y1.cell 5
  have l1 := y1.lt
  clear y1
  go_wp2_with fail
  refine Calls.mono PC.out ?_
  rintro e w1 ⟨rb, b, tb, rfl, hp1, hb1⟩
  obtain ⟨X, hX⟩ : ∃ X : Nat → Prop, X = XW (fun j => j < wA.heap.size) w1 (w1.alloc (.cells #[pp rb, pp b, pp tb, .int .i64 0] 27)) := ⟨_, rfl⟩
  have F2 : Hid (Pu X (w1.alloc (.cells #[pp rb, pp b, pp tb, .int .i64 0] 27)) (pm0 rb b tb 40) (ps0 (from1 40) 40) ∧ Blk (w1.alloc (.cells #[pp rb, pp b, pp tb, .int .i64 0] 27)) w1.heap.size [pp rb, pp b, pp tb, .int .i64 0] 27 ∧ X w1.heap.size ∧ (∀ j, j < wA.heap.size → X j) ∧ Below wA.heap.size wA (w1.alloc (.cells #[pp rb, pp b, pp tb, .int .i64 0] 27)) ∧ wA.heap.size ≤ w1.heap.size) := by
    refine ⟨by rw [hX]; exact hp1.grow (Go.Joins.below_alloc1 _ _), Blk.made w1 [pp rb, pp b, pp tb, .int .i64 0] 27, by rw [hX]; exact Or.inr ⟨Nat.le_refl _, by rw [World.size_alloc]; omega⟩, fun j hj => by rw [hX]; exact Or.inl hj, below_then hb1 (Go.Joins.below_alloc1 _ _), hb1.size⟩
  clear hp1 hb1 hX PC
  go_upto_region 4 with fail
  generalize (w1.alloc (.cells #[pp rb, pp b, pp tb, .int .i64 0] 27)) = w2 at F2 ⊢
  generalize w1.heap.size = B at F2 ⊢
  have XB : Hid (X B ∧ (∀ j, j < wA.heap.size → X j)) := ⟨F2.out.2.2.1, F2.out.2.2.2.1⟩
  have L2 : Hid (Below wA.heap.size wA w2) := F2.out.2.2.2.2.1
  have BL : Hid (wA.heap.size ≤ B) := F2.out.2.2.2.2.2
  have BB : Hid (Blk w2 B [pp rb, pp b, pp tb, .int .i64 0] 27) := F2.out.2.1
  have P0 : Hid (Pu X w2 (pm0 rb b tb 40) (ps0 (from1 40) 40)) := F2.out.1
  have N0 : Hid (Nums (pm0 rb b tb 40) (ps0 (from1 40) 40) 0 40 0 39) := nums0 (pm0 rb b tb 40) 40 40 (by omega) (by omega)
  clear F2
  have BN : Hid (B ≠ 0) := by have := BL.out; have := FA.out.lt; show B ≠ 0; omega
  obtain ⟨XM, hXM⟩ : ∃ XM : Nat → Prop, XM = fun j => X j ∧ j ≠ B := ⟨_, rfl⟩
  have XMH : Hid ((∀ j, XM j → X j) ∧ (∀ j, XM j → j < w2.heap.size) ∧ (∀ j, XM j → j ≠ B) ∧ ∀ j, j < wA.heap.size → XM j) := ⟨fun j hj => by rw [hXM] at hj; exact hj.1, fun j hj => by rw [hXM] at hj; exact P0.out.lt j hj.1, fun j hj => by rw [hXM] at hj; exact hj.2, fun j hj => by rw [hXM]; exact ⟨XB.out.2 j hj, by have := BL.out; omega⟩⟩
  have XA : Hid (XM A ∧ XM D) := ⟨XMH.out.2.2.2 A FA.out.lt, XMH.out.2.2.2 D FD.out.lt⟩
  have F2A : Hid (Blk w2 A [.int .i64 k0, .int .i64 p0, .int .i64 f0, .bool a0, .bool b0, .bool c0] 42) := FA.out.below L2.out
  have F2D : Hid (Blk w2 D [.int .i64 k1, .int .i64 p1, .int .i64 f1, .bool a1, .bool b1, .bool c1] 42) := FD.out.below L2.out
  clear FA FD hXM
  obtain ⟨n0, rfl⟩ := Int.eq_ofNat_of_zero_le (show 0 ≤ p0 by omega)
  obtain ⟨n1, rfl⟩ := Int.eq_ofNat_of_zero_le (show 0 ≤ p1 by omega)
  have HN : Hid (0 ≤ a2 ∧ a2 ≤ 10 ∧ n0 < 34359738368 ∧ n1 < 34359738368 ∧ n0 ≠ n1) := ⟨by omega, by omega, by omega, by omega, by omega⟩
  clear g0 g1 g2 g3 g4 g5 g6 d0 d1 d2 d3 d4 d5 d6 d7 y00 y01 y02 y03 y04 y05 y10 y11 y12 y13 y14 y15 l0 l1
  have KC : Hid (Calls Tryd.prog 11 #[.agg #[pp rb, pp b, pp tb, .int .i64 0]] w2 fun e w' => ∃ (L : List Nat) (kf : Nat), e = .returned (.tuple #[.int .i64 kf, .int .i64 0]) ∧ (L.length = 2 ∧ InL (ps0 (from1 40) 40) L ∧ kf ∈ L) ∧ Wrote X w2 (pm0 rb b tb 40) (ps0 (from1 40) 40) 0 L w') := by
    refine (kernel_ok P0.out (by show (1 : Int) ≤ 40; omega) 0 (N0.out.box (by omega)) (by show 0 < _; omega) (by rw [N0.out.room]; show 1 + ((40 : Int) + 262143) / 262144 ≤ 40; omega)).mono ?_
    rintro e w' ⟨L, kf, he, ⟨h1, h2⟩, hw⟩
    have h1' : (L.length : Int) = 1 + ((40 : Int) + 262143) / 262144 := h1
    exact ⟨L, kf, he, ⟨by omega, h2⟩, hw⟩
  have BX := BB.out
  have x0 : w2.cell? ⟨B, 0, none⟩ = some (pp rb) := BX.cell 0
  have x1 : w2.cell? ⟨B, 1, none⟩ = some (pp b) := BX.cell 1
  have x2 : w2.cell? ⟨B, 2, none⟩ = some (pp tb) := BX.cell 2
  have x3 : w2.cell? ⟨B, 3, none⟩ = some (.int .i64 0) := BX.cell 3
  have lB := BX.lt
  clear BX
  go_wp2_with fail
  refine Calls.mono KC.out ?_
  rintro e w3 ⟨L, kf, rfl, ⟨hl, IN, hkf⟩, M3, hp3, hk3, ho3⟩
  have B3 : Hid (Blk w3 B [pp rb, pp b, pp tb, .int .i64 0] 27) := BB.out.kx hk3 XB.out.1
  have K3 : Hid (Kx X w2 w3 ∧ kf < 1048576) := ⟨hk3, by have := P0.out.so.frb kf (IN.2 kf hkf); omega⟩
  have N3 : Hid (Nums (pm0 rb b tb 40) _ 0 (40 - L.length) (0 + L.length) (39 - L.length)) := N0.out.take P0.out.so IN M3 (0 + 5000)
  obtain ⟨s3, hs3⟩ : ∃ s3 : Ps, s3 = { takeS (ps0 (from1 40) 40) 0 L with M := M3, q := 0 + 5000 } := ⟨_, rfl⟩
  have P3 : Hid (Pu X w3 (pm0 rb b tb 40) s3 ∧ s3.q = 5000) := by rw [hs3]; exact ⟨hp3, rfl⟩
  have N3' : Hid (Nums (pm0 rb b tb 40) s3 0 38 2 37) := by have q := N3.out; rw [← hs3, hl] at q; exact q
  have D3 : Hid ((s3.T 1).live = false) := by rw [hs3]; exact kid_dead
  clear hs3 hl IN hkf hp3 hk3 ho3 BB N0 P0 N3
  have BB := B3
  clear B3
  clear x0 x1 x2 x3 lB KC
  have v1 : IntKind.i64.wrap (1 + a2) = 1 + a2 := by have := HN.out; simp only [IntKind.wrap_i64]; omega
  have CHC : Hid (Calls Tryd.prog 12 #[pp tb, .int .i64 0, .int .i64 (1 + a2)] w3 fun e w' => e = .returned (.tuple #[.int .i64 1, .int .i64 0]) ∧ (Pu X w' (pm0 rb b tb 40) { s3 with T := kidT s3.T (1 + a2) } ∧ Nums (pm0 rb b tb 40) { s3 with T := kidT s3.T (1 + a2) } 1 (1 + a2) 0 37) ∧ Kx X w3 w') := by
    have q := P3.out.1.child N3'.out D3.out (1 + a2) (by have := HN.out; omega) (by have := HN.out; omega)
    exact q
  have BX := BB.out
  have x0 : w3.cell? ⟨B, 0, none⟩ = some (pp rb) := BX.cell 0
  have x1 : w3.cell? ⟨B, 1, none⟩ = some (pp b) := BX.cell 1
  have x2 : w3.cell? ⟨B, 2, none⟩ = some (pp tb) := BX.cell 2
  have x3 : w3.cell? ⟨B, 3, none⟩ = some (.int .i64 0) := BX.cell 3
  have lB := BX.lt
  clear BX
  go_wp2_with fail
  refine Calls.mono CHC.out ?_
  rintro e w4 ⟨rfl, hp4, hk4⟩
  obtain ⟨s4, hs4⟩ : ∃ s4 : Ps, s4 = { s3 with T := kidT s3.T (1 + a2) } := ⟨_, rfl⟩
  rw [← hs4] at hp4
  have Q4 : Hid (s4.q = 5000) := by rw [hs4]; exact P3.out.2
  have b4 := BB.out.kx hk4 XB.out.1
  have hg : w4.grownBy (w4.setCell ⟨B, 3, none⟩ (.int .i64 1)) (some B) := Qu.grown_setCells B [.int .i64 1] 3 w4
  have S5 : Hid (Pu X (w4.setCell ⟨B, 3, none⟩ (.int .i64 1)) (pm0 rb b tb 40) s4 ∧ Nums (pm0 rb b tb 40) s4 1 (1 + a2) 0 37 ∧ Kx X w2 w4 ∧ w4.grownBy (w4.setCell ⟨B, 3, none⟩ (.int .i64 1)) (some B) ∧ Blk (w4.setCell ⟨B, 3, none⟩ (.int .i64 1)) B [pp rb, pp b, pp tb, .int .i64 1] 27) := ⟨hp4.1.poke XB.out.1 BN.out hg, hp4.2, K3.out.1.trans hk4, hg, b4.set 3 _⟩
  have KF : Hid (kf < 1048576) := K3.out.2
  have x3' : w4.cell? ⟨B, 3, none⟩ = some (.int .i64 0) := b4.cell 3
  have z3 : w4.frozen? ⟨B, 3, none⟩ = false := b4.free 3
  have lB' := b4.lt
  clear hp4 hk4 hs4 hg b4 CHC P3 N3' D3 K3 BB x0 x1 x2 x3 lB v1
  go_upto_region 8 with fail
  generalize w4.setCell ⟨B, 3, none⟩ (.int .i64 1) = w5 at S5 ⊢
  have K5 : Hid (Kx XM w2 w5) := ⟨S5.out.2.2.2.1.os.trans S5.out.2.2.1.os, S5.out.2.2.2.1.tape.trans S5.out.2.2.1.tape, S5.out.2.2.2.1.output.trans S5.out.2.2.1.output, Nat.le_trans S5.out.2.2.1.size S5.out.2.2.2.1.size, fun j hj => by
    have xj := XMH.out.1 j hj
    refine (S5.out.2.2.2.1.block j ?_ (fun e => XMH.out.2.2.1 j hj (by have := Option.some.inj e; omega))).trans (S5.out.2.2.1.block j xj)
    exact Nat.lt_of_lt_of_le (XMH.out.2.1 j hj) S5.out.2.2.1.size⟩
  have BB : Hid (Blk w5 B [pp rb, pp b, pp tb, .int .i64 1] 27) := S5.out.2.2.2.2
  have P5 : Hid (Pu X w5 (pm0 rb b tb 40) s4 ∧ Nums (pm0 rb b tb 40) s4 1 (1 + a2) 0 37) := ⟨S5.out.1, S5.out.2.1⟩
  clear S5 x3' z3 lB'
  have RC : Hid (Calls Tryd.prog 13 #[.agg #[pp rb, pp b, pp tb, .int .i64 1], .int .i64 kf] w5 fun e w' => ∃ root : Nat, e = .returned (.tuple #[.int .i64 root, .int .i64 0]) ∧ Rooted X w5 (pm0 rb b tb 40) s4 1 root w') := by
    have q := root_ok P5.out.1 1 (P5.out.2.box (by omega)) (by rw [Q4.out]; omega) (by rw [P5.out.2.room]; have := HN.out; omega) kf KF.out
    exact q
  have BX := BB.out
  have x0 : w5.cell? ⟨B, 0, none⟩ = some (pp rb) := BX.cell 0
  have x1 : w5.cell? ⟨B, 1, none⟩ = some (pp b) := BX.cell 1
  have x2 : w5.cell? ⟨B, 2, none⟩ = some (pp tb) := BX.cell 2
  have x3 : w5.cell? ⟨B, 3, none⟩ = some (.int .i64 1) := BX.cell 3
  have lB := BX.lt
  clear BX
  go_wp2_with fail
  refine Calls.mono RC.out ?_
  rintro e w6 ⟨root, rfl, M6, hF, hp6, hk6, hz6, _⟩
  have IN6 : InL s4 [root] := ⟨by simp, fun p hp => by simp at hp; subst hp; exact hF⟩
  have N6' : Nums (pm0 rb b tb 40) _ 1 (1 + a2 - ([root] : List Nat).length) (0 + ([root] : List Nat).length) (37 - ([root] : List Nat).length) := P5.out.2.take P5.out.1.so IN6 M6 (s4.q + 2)
  have R6' : Rt (pm0 rb b tb 40) _ root (tab1 root) (fun _ => none) := rt_root (k := 1) (q := s4.q + 2) P5.out.1.so hF hz6
  obtain ⟨s6, hs6⟩ : ∃ s6 : Ps, s6 = { takeS s4 1 [root] with M := M6, q := s4.q + 2 } := ⟨_, rfl⟩
  rw [← hs6] at N6' R6' hp6
  have S6 : Hid (St X (pm0 rb b tb 40) root 1 (1 + a2) 0 37 s6 (tab1 root) (fun _ => none) w6 ∧ s6.q ≤ 6000) := ⟨⟨hp6, R6', by rw [pgs_none]; exact N6', by rw [pgs_none]; decide⟩, by rw [hs6]; show s4.q + 2 ≤ 6000; have := Q4.out; omega⟩
  have K6 : Hid (Kx XM w2 w6) := K5.out.trans (hk6.sub (fun j hj => XMH.out.1 j hj))
  have B6 : Hid (Blk w6 B [pp rb, pp b, pp tb, .int .i64 1] 27) := BB.out.kx hk6 XB.out.1
  clear hF hp6 hk6 hz6 IN6 N6' R6' hs6 RC P5 K5 BB x0 x1 x2 x3 lB Q4 KF
  have BB := B6
  clear B6
  have FC : Hid (Calls Tryd.prog 18 #[pp b] w6 fun e w' => e = .returned (.int .i64 36) ∧ w' = w6) := by
    have q := S6.out.1.free
    rw [pgs_none] at q
    exact q
  have BX := BB.out
  have x0 : w6.cell? ⟨B, 0, none⟩ = some (pp rb) := BX.cell 0
  have x1 : w6.cell? ⟨B, 1, none⟩ = some (pp b) := BX.cell 1
  have x2 : w6.cell? ⟨B, 2, none⟩ = some (pp tb) := BX.cell 2
  have x3 : w6.cell? ⟨B, 3, none⟩ = some (.int .i64 1) := BX.cell 3
  have lB := BX.lt
  clear BX
  go_wp2_with fail
  refine Calls.mono FC.out ?_
  rintro e w6' ⟨rfl, hw6⟩
  have hw7 := hw6.symm
  subst hw7
  clear hw6 FC
  have FA6 : Hid (Blk w6 A [.int .i64 k0, .int .i64 (n0 : Int), .int .i64 f0, .bool a0, .bool b0, .bool c0] 42) := F2A.out.kx K6.out XA.out.1
  have FD6 : Hid (Blk w6 D [.int .i64 k1, .int .i64 (n1 : Int), .int .i64 f1, .bool a1, .bool b1, .bool c1] 42) := F2D.out.kx K6.out XA.out.2
  have KK := K6
  have FA := FA6
  have FD := FD6
  clear K6 FA6 FD6 F2A F2D x0 x1 x2 x3 lB
  have BLW : Hid (∀ W : World, Kx XM w2 W → Below wA.heap.size wA W) := fun W q => L2.out.trans ⟨q.os, q.tape, q.output, q.size, fun j hj => q.block j (XMH.out.2.2.2 j hj)⟩
  obtain ⟨m0, m1, m2, m3, m4⟩ := HN.out
  by_cases c3 : a2 < 3
  · have d3 : decide (a2 < 3) = true := by simp [c3]
    have MC : Hid (Calls Tryd.prog 26 #[.agg #[pp rb, pp b, pp tb, .int .i64 1], .int .i64 root, .int .i64 (n0 : Int), .int .i64 1, .agg #[.bool a0, .bool b0, .bool c0]] w6 fun e w' => e = .returned (.int .i64 8) ∧ (∃ (s : Ps) (tab : Nat → Nat → Option Nat), St X (pm0 rb b tb 40) root 1 (1 + a2) 0 37 s tab (fun _ => none) w' ∧ s.q ≤ 7000) ∧ Kx X w6 w') := by
      have t0 : tabsN (pgs (fun _ => none)) = 1 := by rw [pgs_none]; rfl
      have t1 : fresh (pgs (fun _ => none)) n0 = 3 := by rw [pgs_none]; rfl
      have q := S6.out.1.map_full (by omega) n0 m2 1 (by omega) a0 b0 c0 rfl (by rw [t0]; omega) (by rw [t0, t1]; omega)
      refine Calls.mono q ?_
      rintro e w' ⟨he, s', tab', h', hq', _, hk⟩
      exact ⟨he, ⟨s', tab', h', by have := S6.out.2; omega⟩, hk⟩
    have BX := BB.out
    have x0 : w6.cell? ⟨B, 0, none⟩ = some (pp rb) := BX.cell 0
    have x1 : w6.cell? ⟨B, 1, none⟩ = some (pp b) := BX.cell 1
    have x2 : w6.cell? ⟨B, 2, none⟩ = some (pp tb) := BX.cell 2
    have x3 : w6.cell? ⟨B, 3, none⟩ = some (.int .i64 1) := BX.cell 3
    have lB := BX.lt
    clear BX
    have y0 := FA.out
    have y00 : w6.cell? ⟨A, 0, none⟩ = some (.int .i64 k0) := y0.cell 0
    have y01 : w6.cell? ⟨A, 1, none⟩ = some (.int .i64 (n0 : Int)) := y0.cell 1
    have y02 : w6.cell? ⟨A, 2, none⟩ = some (.int .i64 f0) := y0.cell 2
    have y03 : w6.cell? ⟨A, 3, none⟩ = some (.bool a0) := y0.cell 3
    have y04 : w6.cell? ⟨A, 4, none⟩ = some (.bool b0) := y0.cell 4
    have y05 : w6.cell? ⟨A, 5, none⟩ = some (.bool c0) := y0.cell 5
    have l0 := y0.lt
    clear y0
    have y1 := FD.out
    have y10 : w6.cell? ⟨D, 0, none⟩ = some (.int .i64 k1) := y1.cell 0
    have y11 : w6.cell? ⟨D, 1, none⟩ = some (.int .i64 (n1 : Int)) := y1.cell 1
    have y12 : w6.cell? ⟨D, 2, none⟩ = some (.int .i64 f1) := y1.cell 2
    have y13 : w6.cell? ⟨D, 3, none⟩ = some (.bool a1) := y1.cell 3
    have y14 : w6.cell? ⟨D, 4, none⟩ = some (.bool b1) := y1.cell 4
    have y15 : w6.cell? ⟨D, 5, none⟩ = some (.bool c1) := y1.cell 5
    have l1 := y1.lt
    clear y1
    go_wp2_with fail
    refine Calls.mono (MC.out) ?_
    rintro e w7 ⟨rfl, hs, hk⟩
    clear x0 x1 x2 x3 lB y00 y01 y02 y03 y04 y05 y10 y11 y12 y13 y14 y15 l0 l1
    have K' : Hid (Kx XM w2 w7) := KK.out.trans (hk.sub (fun j hj => XMH.out.1 j hj))
    have FA' : Hid (Blk w7 A [.int .i64 k0, .int .i64 (n0 : Int), .int .i64 f0, .bool a0, .bool b0, .bool c0] 42) := FA.out.kx hk (XMH.out.1 A XA.out.1)
    have FD' : Hid (Blk w7 D [.int .i64 k1, .int .i64 (n1 : Int), .int .i64 f1, .bool a1, .bool b1, .bool c1] 42) := FD.out.kx hk (XMH.out.1 D XA.out.2)
    have B' : Hid (Blk w7 B [pp rb, pp b, pp tb, .int .i64 1] 27) := BB.out.kx hk XB.out.1
    clear KK FA FD BB
    have KK := K'
    have FA := FA'
    have FD := FD'
    have BB := B'
    clear K' FA' FD' B'
    have SS : Hid (∃ (s : Ps) (tab : Nat → Nat → Option Nat), St X (pm0 rb b tb 40) root 1 (1 + a2) 0 37 s tab (fun _ => none) w7 ∧ s.q ≤ 7000) := hs
    clear hs hk MC S6
    have TW : Hid (Tab w7) := LA.out.2.below (BLW.out w7 KK.out) (by have := XA.out; have := LA.out.2.1; exact this)
    have BX := BB.out
    have x0 : w7.cell? ⟨B, 0, none⟩ = some (pp rb) := BX.cell 0
    have x1 : w7.cell? ⟨B, 1, none⟩ = some (pp b) := BX.cell 1
    have x2 : w7.cell? ⟨B, 2, none⟩ = some (pp tb) := BX.cell 2
    have x3 : w7.cell? ⟨B, 3, none⟩ = some (.int .i64 1) := BX.cell 3
    have lB := BX.lt
    clear BX
    have y0 := FA.out
    have y00 : w7.cell? ⟨A, 0, none⟩ = some (.int .i64 k0) := y0.cell 0
    have y01 : w7.cell? ⟨A, 1, none⟩ = some (.int .i64 (n0 : Int)) := y0.cell 1
    have y02 : w7.cell? ⟨A, 2, none⟩ = some (.int .i64 f0) := y0.cell 2
    have y03 : w7.cell? ⟨A, 3, none⟩ = some (.bool a0) := y0.cell 3
    have y04 : w7.cell? ⟨A, 4, none⟩ = some (.bool b0) := y0.cell 4
    have y05 : w7.cell? ⟨A, 5, none⟩ = some (.bool c0) := y0.cell 5
    have l0 := y0.lt
    clear y0
    have y1 := FD.out
    have y10 : w7.cell? ⟨D, 0, none⟩ = some (.int .i64 k1) := y1.cell 0
    have y11 : w7.cell? ⟨D, 1, none⟩ = some (.int .i64 (n1 : Int)) := y1.cell 1
    have y12 : w7.cell? ⟨D, 2, none⟩ = some (.int .i64 f1) := y1.cell 2
    have y13 : w7.cell? ⟨D, 3, none⟩ = some (.bool a1) := y1.cell 3
    have y14 : w7.cell? ⟨D, 4, none⟩ = some (.bool b1) := y1.cell 4
    have y15 : w7.cell? ⟨D, 5, none⟩ = some (.bool c1) := y1.cell 5
    have l1 := y1.lt
    clear y1
    go_wp2_with fail
    refine Calls.mono (AW.out w7 TW.out) ?_
    rintro e w8 ⟨rfl, hb⟩
    clear x0 x1 x2 x3 lB y00 y01 y02 y03 y04 y05 y10 y11 y12 y13 y14 y15 l0 l1
    have K' : Hid (Kx XM w2 w8) := KK.out.trans ((Kx.of_below SS.out.choose_spec.choose_spec.1.pu hb).sub (fun j hj => XMH.out.1 j hj))
    have FA' : Hid (Blk w8 A [.int .i64 k0, .int .i64 (n0 : Int), .int .i64 f0, .bool a0, .bool b0, .bool c0] 42) := FA.out.below hb
    have FD' : Hid (Blk w8 D [.int .i64 k1, .int .i64 (n1 : Int), .int .i64 f1, .bool a1, .bool b1, .bool c1] 42) := FD.out.below hb
    have B' : Hid (Blk w8 B [pp rb, pp b, pp tb, .int .i64 1] 27) := BB.out.below hb
    have SS' : Hid (∃ (s : Ps) (tab : Nat → Nat → Option Nat), St X (pm0 rb b tb 40) root 1 (1 + a2) 0 37 s tab (fun _ => none) w8 ∧ s.q ≤ 7000) := st_bel SS.out hb
    clear KK FA FD BB SS
    have KK := K'
    have FA := FA'
    have FD := FD'
    have BB := B'
    have SS := SS'
    clear K' FA' FD' B' SS'
    clear hb TW
    have UC : Hid (Calls Tryd.prog 17 #[.agg #[pp rb, pp b, pp tb, .int .i64 1]] w8 fun e w' => e = .returned (.int .i64 1) ∧ Below w8.heap.size w8 w') := by
      obtain ⟨s, tab, h, _⟩ := SS.out
      have q := h.used
      rw [pgs_none] at q
      exact q
    have BX := BB.out
    have x0 : w8.cell? ⟨B, 0, none⟩ = some (pp rb) := BX.cell 0
    have x1 : w8.cell? ⟨B, 1, none⟩ = some (pp b) := BX.cell 1
    have x2 : w8.cell? ⟨B, 2, none⟩ = some (pp tb) := BX.cell 2
    have x3 : w8.cell? ⟨B, 3, none⟩ = some (.int .i64 1) := BX.cell 3
    have lB := BX.lt
    clear BX
    have y0 := FA.out
    have y00 : w8.cell? ⟨A, 0, none⟩ = some (.int .i64 k0) := y0.cell 0
    have y01 : w8.cell? ⟨A, 1, none⟩ = some (.int .i64 (n0 : Int)) := y0.cell 1
    have y02 : w8.cell? ⟨A, 2, none⟩ = some (.int .i64 f0) := y0.cell 2
    have y03 : w8.cell? ⟨A, 3, none⟩ = some (.bool a0) := y0.cell 3
    have y04 : w8.cell? ⟨A, 4, none⟩ = some (.bool b0) := y0.cell 4
    have y05 : w8.cell? ⟨A, 5, none⟩ = some (.bool c0) := y0.cell 5
    have l0 := y0.lt
    clear y0
    have y1 := FD.out
    have y10 : w8.cell? ⟨D, 0, none⟩ = some (.int .i64 k1) := y1.cell 0
    have y11 : w8.cell? ⟨D, 1, none⟩ = some (.int .i64 (n1 : Int)) := y1.cell 1
    have y12 : w8.cell? ⟨D, 2, none⟩ = some (.int .i64 f1) := y1.cell 2
    have y13 : w8.cell? ⟨D, 3, none⟩ = some (.bool a1) := y1.cell 3
    have y14 : w8.cell? ⟨D, 4, none⟩ = some (.bool b1) := y1.cell 4
    have y15 : w8.cell? ⟨D, 5, none⟩ = some (.bool c1) := y1.cell 5
    have l1 := y1.lt
    clear y1
    go_wp2_with fail
    refine Calls.mono (UC.out) ?_
    rintro e w9 ⟨rfl, hb⟩
    clear x0 x1 x2 x3 lB y00 y01 y02 y03 y04 y05 y10 y11 y12 y13 y14 y15 l0 l1
    have K' : Hid (Kx XM w2 w9) := KK.out.trans ((Kx.of_below SS.out.choose_spec.choose_spec.1.pu hb).sub (fun j hj => XMH.out.1 j hj))
    have FA' : Hid (Blk w9 A [.int .i64 k0, .int .i64 (n0 : Int), .int .i64 f0, .bool a0, .bool b0, .bool c0] 42) := FA.out.below hb
    have FD' : Hid (Blk w9 D [.int .i64 k1, .int .i64 (n1 : Int), .int .i64 f1, .bool a1, .bool b1, .bool c1] 42) := FD.out.below hb
    have B' : Hid (Blk w9 B [pp rb, pp b, pp tb, .int .i64 1] 27) := BB.out.below hb
    have SS' : Hid (∃ (s : Ps) (tab : Nat → Nat → Option Nat), St X (pm0 rb b tb 40) root 1 (1 + a2) 0 37 s tab (fun _ => none) w9 ∧ s.q ≤ 7000) := st_bel SS.out hb
    clear KK FA FD BB SS
    have KK := K'
    have FA := FA'
    have FD := FD'
    have BB := B'
    have SS := SS'
    clear K' FA' FD' B' SS'
    clear hb UC
    have FC : Hid (Calls Tryd.prog 18 #[pp b] w9 fun e w' => e = .returned (.int .i64 36) ∧ w' = w9) := by
      obtain ⟨s, tab, h, _⟩ := SS.out
      have q := h.free
      rw [pgs_none] at q
      exact q
    have BX := BB.out
    have x0 : w9.cell? ⟨B, 0, none⟩ = some (pp rb) := BX.cell 0
    have x1 : w9.cell? ⟨B, 1, none⟩ = some (pp b) := BX.cell 1
    have x2 : w9.cell? ⟨B, 2, none⟩ = some (pp tb) := BX.cell 2
    have x3 : w9.cell? ⟨B, 3, none⟩ = some (.int .i64 1) := BX.cell 3
    have lB := BX.lt
    clear BX
    go_wp2_with fail
    refine Calls.mono FC.out ?_
    rintro e wf ⟨rfl, hwf⟩
    have hwg := hwf.symm
    subst hwg
    clear hwf FC x0 x1 x2 x3 lB
    have PGC : Hid (Calls Tryd.prog 20 #[.agg #[pp rb, pp b, pp tb, .int .i64 1], .int .i64 root] w9 fun e w' => ∃ (pf : Option Addr) (cf : Nat), e = .returned (.slice pf 0 cf) ∧ Below w9.heap.size w9 w') := by
      obtain ⟨s, tab, h, _⟩ := SS.out
      have hl : (pgs (fun _ => none)).length = 0 := by rw [pgs_none]; rfl
      refine (h.pages (by rw [hl]; omega)).mono ?_
      rintro e w' ⟨pf, n, cf, rfl, hL⟩
      have q := hL.len
      rw [hl] at q
      subst q
      exact ⟨pf, cf, rfl, hL.bel⟩
    have BX := BB.out
    have x0 : w9.cell? ⟨B, 0, none⟩ = some (pp rb) := BX.cell 0
    have x1 : w9.cell? ⟨B, 1, none⟩ = some (pp b) := BX.cell 1
    have x2 : w9.cell? ⟨B, 2, none⟩ = some (pp tb) := BX.cell 2
    have x3 : w9.cell? ⟨B, 3, none⟩ = some (.int .i64 1) := BX.cell 3
    have lB := BX.lt
    clear BX
    have y0 := FA.out
    have y00 : w9.cell? ⟨A, 0, none⟩ = some (.int .i64 k0) := y0.cell 0
    have y01 : w9.cell? ⟨A, 1, none⟩ = some (.int .i64 (n0 : Int)) := y0.cell 1
    have y02 : w9.cell? ⟨A, 2, none⟩ = some (.int .i64 f0) := y0.cell 2
    have y03 : w9.cell? ⟨A, 3, none⟩ = some (.bool a0) := y0.cell 3
    have y04 : w9.cell? ⟨A, 4, none⟩ = some (.bool b0) := y0.cell 4
    have y05 : w9.cell? ⟨A, 5, none⟩ = some (.bool c0) := y0.cell 5
    have l0 := y0.lt
    clear y0
    have y1 := FD.out
    have y10 : w9.cell? ⟨D, 0, none⟩ = some (.int .i64 k1) := y1.cell 0
    have y11 : w9.cell? ⟨D, 1, none⟩ = some (.int .i64 (n1 : Int)) := y1.cell 1
    have y12 : w9.cell? ⟨D, 2, none⟩ = some (.int .i64 f1) := y1.cell 2
    have y13 : w9.cell? ⟨D, 3, none⟩ = some (.bool a1) := y1.cell 3
    have y14 : w9.cell? ⟨D, 4, none⟩ = some (.bool b1) := y1.cell 4
    have y15 : w9.cell? ⟨D, 5, none⟩ = some (.bool c1) := y1.cell 5
    have l1 := y1.lt
    clear y1
    go_wp2_with fail
    refine Calls.mono (PGC.out) ?_
    rintro e w10 ⟨pf, cf, rfl, hb⟩
    clear x0 x1 x2 x3 lB y00 y01 y02 y03 y04 y05 y10 y11 y12 y13 y14 y15 l0 l1
    have K' : Hid (Kx XM w2 w10) := KK.out.trans ((Kx.of_below SS.out.choose_spec.choose_spec.1.pu hb).sub (fun j hj => XMH.out.1 j hj))
    have FA' : Hid (Blk w10 A [.int .i64 k0, .int .i64 (n0 : Int), .int .i64 f0, .bool a0, .bool b0, .bool c0] 42) := FA.out.below hb
    have FD' : Hid (Blk w10 D [.int .i64 k1, .int .i64 (n1 : Int), .int .i64 f1, .bool a1, .bool b1, .bool c1] 42) := FD.out.below hb
    have B' : Hid (Blk w10 B [pp rb, pp b, pp tb, .int .i64 1] 27) := BB.out.below hb
    have SS' : Hid (∃ (s : Ps) (tab : Nat → Nat → Option Nat), St X (pm0 rb b tb 40) root 1 (1 + a2) 0 37 s tab (fun _ => none) w10 ∧ s.q ≤ 7000) := st_bel SS.out hb
    clear KK FA FD BB SS
    have KK := K'
    have FA := FA'
    have FD := FD'
    have BB := B'
    have SS := SS'
    clear K' FA' FD' B' SS'
    clear hb PGC
    have LE : Hid (Below w.heap.size w w10) := below_then LA.out.1 (BLW.out w10 KK.out)
    clear KK FA FD BB SS
    go_wp2_with fail
    go_ret
    exact ⟨by simp, LE.out⟩
  have d3 : decide (a2 < 3) = false := by simp; omega
  have MC : Hid (Calls Tryd.prog 26 #[.agg #[pp rb, pp b, pp tb, .int .i64 1], .int .i64 root, .int .i64 (n0 : Int), .int .i64 1, .agg #[.bool a0, .bool b0, .bool c0]] w6 fun e w' => e = .returned (.int .i64 0) ∧ ((∃ (s : Ps) (tab : Nat → Nat → Option Nat), St X (pm0 rb b tb 40) root 1 (1 + a2) 0 37 s tab (lfSet (fun _ => none) n0 (some ⟨1, a0, b0, c0⟩)) w' ∧ s.q ≤ 7000) ∧ (pgs (lfSet (fun _ => none) n0 (some ⟨1, a0, b0, c0⟩))).length = 1 ∧ tabsN (pgs (lfSet (fun _ => none) n0 (some ⟨1, a0, b0, c0⟩))) = 4) ∧ Kx X w6 w') := by
    have t0 : tabsN (pgs (fun _ => none)) = 1 := by rw [pgs_none]; rfl
    have t1 : fresh (pgs (fun _ => none)) n0 = 3 := by rw [pgs_none]; rfl
    have q := S6.out.1.map_ok (by omega) (by have := S6.out.2; omega) n0 m2 1 (by omega) a0 b0 c0 rfl (by rw [t0, t1]; omega)
    refine Calls.mono q ?_
    rintro e w' ⟨he, s', tab', h', hq', _, hk⟩
    have pm := pgs_more S6.out.1.rt.pw rfl h'.rt.pw
    rw [pgs_none] at pm
    exact ⟨he, ⟨⟨s', tab', h', by have := S6.out.2; omega⟩, pm.length_eq, (tabs_perm pm).trans rfl⟩, hk⟩
  have BX := BB.out
  have x0 : w6.cell? ⟨B, 0, none⟩ = some (pp rb) := BX.cell 0
  have x1 : w6.cell? ⟨B, 1, none⟩ = some (pp b) := BX.cell 1
  have x2 : w6.cell? ⟨B, 2, none⟩ = some (pp tb) := BX.cell 2
  have x3 : w6.cell? ⟨B, 3, none⟩ = some (.int .i64 1) := BX.cell 3
  have lB := BX.lt
  clear BX
  have y0 := FA.out
  have y00 : w6.cell? ⟨A, 0, none⟩ = some (.int .i64 k0) := y0.cell 0
  have y01 : w6.cell? ⟨A, 1, none⟩ = some (.int .i64 (n0 : Int)) := y0.cell 1
  have y02 : w6.cell? ⟨A, 2, none⟩ = some (.int .i64 f0) := y0.cell 2
  have y03 : w6.cell? ⟨A, 3, none⟩ = some (.bool a0) := y0.cell 3
  have y04 : w6.cell? ⟨A, 4, none⟩ = some (.bool b0) := y0.cell 4
  have y05 : w6.cell? ⟨A, 5, none⟩ = some (.bool c0) := y0.cell 5
  have l0 := y0.lt
  clear y0
  have y1 := FD.out
  have y10 : w6.cell? ⟨D, 0, none⟩ = some (.int .i64 k1) := y1.cell 0
  have y11 : w6.cell? ⟨D, 1, none⟩ = some (.int .i64 (n1 : Int)) := y1.cell 1
  have y12 : w6.cell? ⟨D, 2, none⟩ = some (.int .i64 f1) := y1.cell 2
  have y13 : w6.cell? ⟨D, 3, none⟩ = some (.bool a1) := y1.cell 3
  have y14 : w6.cell? ⟨D, 4, none⟩ = some (.bool b1) := y1.cell 4
  have y15 : w6.cell? ⟨D, 5, none⟩ = some (.bool c1) := y1.cell 5
  have l1 := y1.lt
  clear y1
  go_wp2_with fail
  refine Calls.mono (MC.out) ?_
  rintro e w7 ⟨rfl, hs, hk⟩
  clear x0 x1 x2 x3 lB y00 y01 y02 y03 y04 y05 y10 y11 y12 y13 y14 y15 l0 l1
  have K' : Hid (Kx XM w2 w7) := KK.out.trans (hk.sub (fun j hj => XMH.out.1 j hj))
  have FA' : Hid (Blk w7 A [.int .i64 k0, .int .i64 (n0 : Int), .int .i64 f0, .bool a0, .bool b0, .bool c0] 42) := FA.out.kx hk (XMH.out.1 A XA.out.1)
  have FD' : Hid (Blk w7 D [.int .i64 k1, .int .i64 (n1 : Int), .int .i64 f1, .bool a1, .bool b1, .bool c1] 42) := FD.out.kx hk (XMH.out.1 D XA.out.2)
  have B' : Hid (Blk w7 B [pp rb, pp b, pp tb, .int .i64 1] 27) := BB.out.kx hk XB.out.1
  clear KK FA FD BB
  have KK := K'
  have FA := FA'
  have FD := FD'
  have BB := B'
  clear K' FA' FD' B'
  have SS : Hid (∃ (s : Ps) (tab : Nat → Nat → Option Nat), St X (pm0 rb b tb 40) root 1 (1 + a2) 0 37 s tab (lfSet (fun _ => none) n0 (some ⟨1, a0, b0, c0⟩)) w7 ∧ s.q ≤ 7000) := hs.1
  have HL1 : Hid ((pgs (lfSet (fun _ => none) n0 (some ⟨1, a0, b0, c0⟩))).length = 1 ∧ tabsN (pgs (lfSet (fun _ => none) n0 (some ⟨1, a0, b0, c0⟩))) = 4) := hs.2
  clear hs hk MC S6
  have UC : Hid (Calls Tryd.prog 17 #[.agg #[pp rb, pp b, pp tb, .int .i64 1]] w7 fun e w' => e = .returned (.int .i64 4) ∧ Below w7.heap.size w7 w') := by
    obtain ⟨s, tab, h, _⟩ := SS.out
    have q := h.used
    rw [HL1.out.2] at q
    exact q
  have BX := BB.out
  have x0 : w7.cell? ⟨B, 0, none⟩ = some (pp rb) := BX.cell 0
  have x1 : w7.cell? ⟨B, 1, none⟩ = some (pp b) := BX.cell 1
  have x2 : w7.cell? ⟨B, 2, none⟩ = some (pp tb) := BX.cell 2
  have x3 : w7.cell? ⟨B, 3, none⟩ = some (.int .i64 1) := BX.cell 3
  have lB := BX.lt
  clear BX
  have y0 := FA.out
  have y00 : w7.cell? ⟨A, 0, none⟩ = some (.int .i64 k0) := y0.cell 0
  have y01 : w7.cell? ⟨A, 1, none⟩ = some (.int .i64 (n0 : Int)) := y0.cell 1
  have y02 : w7.cell? ⟨A, 2, none⟩ = some (.int .i64 f0) := y0.cell 2
  have y03 : w7.cell? ⟨A, 3, none⟩ = some (.bool a0) := y0.cell 3
  have y04 : w7.cell? ⟨A, 4, none⟩ = some (.bool b0) := y0.cell 4
  have y05 : w7.cell? ⟨A, 5, none⟩ = some (.bool c0) := y0.cell 5
  have l0 := y0.lt
  clear y0
  have y1 := FD.out
  have y10 : w7.cell? ⟨D, 0, none⟩ = some (.int .i64 k1) := y1.cell 0
  have y11 : w7.cell? ⟨D, 1, none⟩ = some (.int .i64 (n1 : Int)) := y1.cell 1
  have y12 : w7.cell? ⟨D, 2, none⟩ = some (.int .i64 f1) := y1.cell 2
  have y13 : w7.cell? ⟨D, 3, none⟩ = some (.bool a1) := y1.cell 3
  have y14 : w7.cell? ⟨D, 4, none⟩ = some (.bool b1) := y1.cell 4
  have y15 : w7.cell? ⟨D, 5, none⟩ = some (.bool c1) := y1.cell 5
  have l1 := y1.lt
  clear y1
  go_wp2_with fail
  refine Calls.mono (UC.out) ?_
  rintro e w8 ⟨rfl, hb⟩
  clear x0 x1 x2 x3 lB y00 y01 y02 y03 y04 y05 y10 y11 y12 y13 y14 y15 l0 l1
  have K' : Hid (Kx XM w2 w8) := KK.out.trans ((Kx.of_below SS.out.choose_spec.choose_spec.1.pu hb).sub (fun j hj => XMH.out.1 j hj))
  have FA' : Hid (Blk w8 A [.int .i64 k0, .int .i64 (n0 : Int), .int .i64 f0, .bool a0, .bool b0, .bool c0] 42) := FA.out.below hb
  have FD' : Hid (Blk w8 D [.int .i64 k1, .int .i64 (n1 : Int), .int .i64 f1, .bool a1, .bool b1, .bool c1] 42) := FD.out.below hb
  have B' : Hid (Blk w8 B [pp rb, pp b, pp tb, .int .i64 1] 27) := BB.out.below hb
  have SS' : Hid (∃ (s : Ps) (tab : Nat → Nat → Option Nat), St X (pm0 rb b tb 40) root 1 (1 + a2) 0 37 s tab (lfSet (fun _ => none) n0 (some ⟨1, a0, b0, c0⟩)) w8 ∧ s.q ≤ 7000) := st_bel SS.out hb
  clear KK FA FD BB SS
  have KK := K'
  have FA := FA'
  have FD := FD'
  have BB := B'
  have SS := SS'
  clear K' FA' FD' B' SS'
  clear hb UC
  have HF1 : Hid ((lfSet (fun _ => none) n0 (some ⟨1, a0, b0, c0⟩)) n1 = none ∧ (lfSet (fun _ => none) n0 (some ⟨1, a0, b0, c0⟩)) n0 = some ⟨1, a0, b0, c0⟩) := ⟨lf_other (Ne.symm m4), lf_same _ _ _⟩
  obtain ⟨fz, hfz⟩ : ∃ fz, fresh (pgs (lfSet (fun _ => none) n0 (some ⟨1, a0, b0, c0⟩))) n1 = fz := ⟨_, rfl⟩
  by_cases c4 : 1 + a2 < ((4 + fz : Nat) : Int)
  · have MC : Hid (Calls Tryd.prog 26 #[.agg #[pp rb, pp b, pp tb, .int .i64 1], .int .i64 root, .int .i64 (n1 : Int), .int .i64 2, .agg #[.bool a1, .bool b1, .bool c1]] w8 fun e w' => e = .returned (.int .i64 8) ∧ ((∃ (s : Ps) (tab : Nat → Nat → Option Nat), St X (pm0 rb b tb 40) root 1 (1 + a2) 0 37 s tab (lfSet (fun _ => none) n0 (some ⟨1, a0, b0, c0⟩)) w' ∧ s.q ≤ 8000) ∧ True) ∧ Kx X w8 w') := by
      obtain ⟨s, tab, hs, hq⟩ := SS.out
      have t0 := HL1.out.2
      have q := hs.map_full (by omega) n1 m3 2 (by omega) a1 b1 c1 HF1.out.1 (by rw [t0]; omega) (by rw [t0, hfz]; omega)
      refine Calls.mono q ?_
      rintro e w' ⟨he, s', tab', h', hq', _, hk⟩
      exact ⟨he, ⟨⟨s', tab', h', by omega⟩, trivial⟩, hk⟩
    have BX := BB.out
    have x0 : w8.cell? ⟨B, 0, none⟩ = some (pp rb) := BX.cell 0
    have x1 : w8.cell? ⟨B, 1, none⟩ = some (pp b) := BX.cell 1
    have x2 : w8.cell? ⟨B, 2, none⟩ = some (pp tb) := BX.cell 2
    have x3 : w8.cell? ⟨B, 3, none⟩ = some (.int .i64 1) := BX.cell 3
    have lB := BX.lt
    clear BX
    have y0 := FA.out
    have y00 : w8.cell? ⟨A, 0, none⟩ = some (.int .i64 k0) := y0.cell 0
    have y01 : w8.cell? ⟨A, 1, none⟩ = some (.int .i64 (n0 : Int)) := y0.cell 1
    have y02 : w8.cell? ⟨A, 2, none⟩ = some (.int .i64 f0) := y0.cell 2
    have y03 : w8.cell? ⟨A, 3, none⟩ = some (.bool a0) := y0.cell 3
    have y04 : w8.cell? ⟨A, 4, none⟩ = some (.bool b0) := y0.cell 4
    have y05 : w8.cell? ⟨A, 5, none⟩ = some (.bool c0) := y0.cell 5
    have l0 := y0.lt
    clear y0
    have y1 := FD.out
    have y10 : w8.cell? ⟨D, 0, none⟩ = some (.int .i64 k1) := y1.cell 0
    have y11 : w8.cell? ⟨D, 1, none⟩ = some (.int .i64 (n1 : Int)) := y1.cell 1
    have y12 : w8.cell? ⟨D, 2, none⟩ = some (.int .i64 f1) := y1.cell 2
    have y13 : w8.cell? ⟨D, 3, none⟩ = some (.bool a1) := y1.cell 3
    have y14 : w8.cell? ⟨D, 4, none⟩ = some (.bool b1) := y1.cell 4
    have y15 : w8.cell? ⟨D, 5, none⟩ = some (.bool c1) := y1.cell 5
    have l1 := y1.lt
    clear y1
    go_wp2_with fail
    refine Calls.mono (MC.out) ?_
    rintro e w9 ⟨rfl, hs, hk⟩
    clear x0 x1 x2 x3 lB y00 y01 y02 y03 y04 y05 y10 y11 y12 y13 y14 y15 l0 l1
    have K' : Hid (Kx XM w2 w9) := KK.out.trans (hk.sub (fun j hj => XMH.out.1 j hj))
    have FA' : Hid (Blk w9 A [.int .i64 k0, .int .i64 (n0 : Int), .int .i64 f0, .bool a0, .bool b0, .bool c0] 42) := FA.out.kx hk (XMH.out.1 A XA.out.1)
    have FD' : Hid (Blk w9 D [.int .i64 k1, .int .i64 (n1 : Int), .int .i64 f1, .bool a1, .bool b1, .bool c1] 42) := FD.out.kx hk (XMH.out.1 D XA.out.2)
    have B' : Hid (Blk w9 B [pp rb, pp b, pp tb, .int .i64 1] 27) := BB.out.kx hk XB.out.1
    clear KK FA FD BB
    have KK := K'
    have FA := FA'
    have FD := FD'
    have BB := B'
    clear K' FA' FD' B'
    clear SS
    have SS : Hid (∃ (s : Ps) (tab : Nat → Nat → Option Nat), St X (pm0 rb b tb 40) root 1 (1 + a2) 0 37 s tab (lfSet (fun _ => none) n0 (some ⟨1, a0, b0, c0⟩)) w9 ∧ s.q ≤ 8000) := hs.1
    have HL2 : Hid (True) := hs.2
    clear hs hk MC
    have QC : Hid (Calls Tryd.prog 28 #[.agg #[pp rb, pp b, pp tb, .int .i64 1], .int .i64 root, .int .i64 (n0 : Int)] w9 fun e w' => e = .returned (.tuple #[.int .i64 1, .agg #[.bool a0, .bool b0, .bool c0], .bool true]) ∧ Below w9.heap.size w9 w') := by
      obtain ⟨s, tab, hs, hq⟩ := SS.out
      have q := query_any hs.pu hs.rt 1 n0
      rw [show (lfSet (fun _ => none) n0 (some ⟨1, a0, b0, c0⟩)) n0 = some ⟨1, a0, b0, c0⟩ from HF1.out.2] at q
      exact q
    have BX := BB.out
    have x0 : w9.cell? ⟨B, 0, none⟩ = some (pp rb) := BX.cell 0
    have x1 : w9.cell? ⟨B, 1, none⟩ = some (pp b) := BX.cell 1
    have x2 : w9.cell? ⟨B, 2, none⟩ = some (pp tb) := BX.cell 2
    have x3 : w9.cell? ⟨B, 3, none⟩ = some (.int .i64 1) := BX.cell 3
    have lB := BX.lt
    clear BX
    have y0 := FA.out
    have y00 : w9.cell? ⟨A, 0, none⟩ = some (.int .i64 k0) := y0.cell 0
    have y01 : w9.cell? ⟨A, 1, none⟩ = some (.int .i64 (n0 : Int)) := y0.cell 1
    have y02 : w9.cell? ⟨A, 2, none⟩ = some (.int .i64 f0) := y0.cell 2
    have y03 : w9.cell? ⟨A, 3, none⟩ = some (.bool a0) := y0.cell 3
    have y04 : w9.cell? ⟨A, 4, none⟩ = some (.bool b0) := y0.cell 4
    have y05 : w9.cell? ⟨A, 5, none⟩ = some (.bool c0) := y0.cell 5
    have l0 := y0.lt
    clear y0
    have y1 := FD.out
    have y10 : w9.cell? ⟨D, 0, none⟩ = some (.int .i64 k1) := y1.cell 0
    have y11 : w9.cell? ⟨D, 1, none⟩ = some (.int .i64 (n1 : Int)) := y1.cell 1
    have y12 : w9.cell? ⟨D, 2, none⟩ = some (.int .i64 f1) := y1.cell 2
    have y13 : w9.cell? ⟨D, 3, none⟩ = some (.bool a1) := y1.cell 3
    have y14 : w9.cell? ⟨D, 4, none⟩ = some (.bool b1) := y1.cell 4
    have y15 : w9.cell? ⟨D, 5, none⟩ = some (.bool c1) := y1.cell 5
    have l1 := y1.lt
    clear y1
    go_wp2_with fail
    refine Calls.mono QC.out ?_
    rintro e w10 ⟨rfl, hb10⟩
    have hbb : Below w9.heap.size w9 (w10.alloc (.cells #[.bool a0, .bool b0, .bool c0] 40)) := below_new hb10 _
    have FM : Hid (Blk (w10.alloc (.cells #[.bool a0, .bool b0, .bool c0] 40)) w10.heap.size [.bool a0, .bool b0, .bool c0] 40 ∧ Below w9.heap.size w9 (w10.alloc (.cells #[.bool a0, .bool b0, .bool c0] 40))) := ⟨Blk.made w10 [.bool a0, .bool b0, .bool c0] 40, hbb⟩
    clear hb10 hbb QC x0 x1 x2 x3 lB y00 y01 y02 y03 y04 y05 y10 y11 y12 y13 y14 y15 l0 l1
    go_upto_region 18 with fail
    generalize (w10.alloc (.cells #[.bool a0, .bool b0, .bool c0] 40)) = w11 at FM ⊢
    generalize w10.heap.size = MM at FM ⊢
    have hb := FM.out.2
    have K' : Hid (Kx XM w2 w11) := KK.out.trans ((Kx.of_below SS.out.choose_spec.choose_spec.1.pu hb).sub (fun j hj => XMH.out.1 j hj))
    have FA' : Hid (Blk w11 A [.int .i64 k0, .int .i64 (n0 : Int), .int .i64 f0, .bool a0, .bool b0, .bool c0] 42) := FA.out.below hb
    have FD' : Hid (Blk w11 D [.int .i64 k1, .int .i64 (n1 : Int), .int .i64 f1, .bool a1, .bool b1, .bool c1] 42) := FD.out.below hb
    have B' : Hid (Blk w11 B [pp rb, pp b, pp tb, .int .i64 1] 27) := BB.out.below hb
    have SS' : Hid (∃ (s : Ps) (tab : Nat → Nat → Option Nat), St X (pm0 rb b tb 40) root 1 (1 + a2) 0 37 s tab (lfSet (fun _ => none) n0 (some ⟨1, a0, b0, c0⟩)) w11 ∧ s.q ≤ 8000) := st_bel SS.out hb
    clear KK FA FD BB SS
    have KK := K'
    have FA := FA'
    have FD := FD'
    have BB := B'
    have SS := SS'
    clear K' FA' FD' B' SS'
    clear hb
    have ym := FM.out.1
    have m30 : w11.cell? ⟨MM, 0, none⟩ = some (.bool a0) := ym.cell 0
    have m31 : w11.cell? ⟨MM, 1, none⟩ = some (.bool b0) := ym.cell 1
    have m32 : w11.cell? ⟨MM, 2, none⟩ = some (.bool c0) := ym.cell 2
    have ml := ym.lt
    clear ym FM
    have ne := nePermS
    have y0 := FA.out
    have y00 : w11.cell? ⟨A, 0, none⟩ = some (.int .i64 k0) := y0.cell 0
    have y01 : w11.cell? ⟨A, 1, none⟩ = some (.int .i64 (n0 : Int)) := y0.cell 1
    have y02 : w11.cell? ⟨A, 2, none⟩ = some (.int .i64 f0) := y0.cell 2
    have y03 : w11.cell? ⟨A, 3, none⟩ = some (.bool a0) := y0.cell 3
    have y04 : w11.cell? ⟨A, 4, none⟩ = some (.bool b0) := y0.cell 4
    have y05 : w11.cell? ⟨A, 5, none⟩ = some (.bool c0) := y0.cell 5
    have l0 := y0.lt
    clear y0
    have y1 := FD.out
    have y10 : w11.cell? ⟨D, 0, none⟩ = some (.int .i64 k1) := y1.cell 0
    have y11 : w11.cell? ⟨D, 1, none⟩ = some (.int .i64 (n1 : Int)) := y1.cell 1
    have y12 : w11.cell? ⟨D, 2, none⟩ = some (.int .i64 f1) := y1.cell 2
    have y13 : w11.cell? ⟨D, 3, none⟩ = some (.bool a1) := y1.cell 3
    have y14 : w11.cell? ⟨D, 4, none⟩ = some (.bool b1) := y1.cell 4
    have y15 : w11.cell? ⟨D, 5, none⟩ = some (.bool c1) := y1.cell 5
    have l1 := y1.lt
    clear y1
    go_upto_region 21 with fail
    clear m30 m31 m32 ml ne y00 y01 y02 y03 y04 y05 y10 y11 y12 y13 y14 y15 l0 l1
    have TW : Hid (Tab w11) := LA.out.2.below (BLW.out w11 KK.out) (by have := XA.out; have := LA.out.2.1; exact this)
    have BX := BB.out
    have x0 : w11.cell? ⟨B, 0, none⟩ = some (pp rb) := BX.cell 0
    have x1 : w11.cell? ⟨B, 1, none⟩ = some (pp b) := BX.cell 1
    have x2 : w11.cell? ⟨B, 2, none⟩ = some (pp tb) := BX.cell 2
    have x3 : w11.cell? ⟨B, 3, none⟩ = some (.int .i64 1) := BX.cell 3
    have lB := BX.lt
    clear BX
    have y0 := FA.out
    have y00 : w11.cell? ⟨A, 0, none⟩ = some (.int .i64 k0) := y0.cell 0
    have y01 : w11.cell? ⟨A, 1, none⟩ = some (.int .i64 (n0 : Int)) := y0.cell 1
    have y02 : w11.cell? ⟨A, 2, none⟩ = some (.int .i64 f0) := y0.cell 2
    have y03 : w11.cell? ⟨A, 3, none⟩ = some (.bool a0) := y0.cell 3
    have y04 : w11.cell? ⟨A, 4, none⟩ = some (.bool b0) := y0.cell 4
    have y05 : w11.cell? ⟨A, 5, none⟩ = some (.bool c0) := y0.cell 5
    have l0 := y0.lt
    clear y0
    have y1 := FD.out
    have y10 : w11.cell? ⟨D, 0, none⟩ = some (.int .i64 k1) := y1.cell 0
    have y11 : w11.cell? ⟨D, 1, none⟩ = some (.int .i64 (n1 : Int)) := y1.cell 1
    have y12 : w11.cell? ⟨D, 2, none⟩ = some (.int .i64 f1) := y1.cell 2
    have y13 : w11.cell? ⟨D, 3, none⟩ = some (.bool a1) := y1.cell 3
    have y14 : w11.cell? ⟨D, 4, none⟩ = some (.bool b1) := y1.cell 4
    have y15 : w11.cell? ⟨D, 5, none⟩ = some (.bool c1) := y1.cell 5
    have l1 := y1.lt
    clear y1
    go_wp2_with fail
    refine Calls.mono (AW.out w11 TW.out) ?_
    rintro e w12 ⟨rfl, hb⟩
    clear x0 x1 x2 x3 lB y00 y01 y02 y03 y04 y05 y10 y11 y12 y13 y14 y15 l0 l1
    have K' : Hid (Kx XM w2 w12) := KK.out.trans ((Kx.of_below SS.out.choose_spec.choose_spec.1.pu hb).sub (fun j hj => XMH.out.1 j hj))
    have FA' : Hid (Blk w12 A [.int .i64 k0, .int .i64 (n0 : Int), .int .i64 f0, .bool a0, .bool b0, .bool c0] 42) := FA.out.below hb
    have FD' : Hid (Blk w12 D [.int .i64 k1, .int .i64 (n1 : Int), .int .i64 f1, .bool a1, .bool b1, .bool c1] 42) := FD.out.below hb
    have B' : Hid (Blk w12 B [pp rb, pp b, pp tb, .int .i64 1] 27) := BB.out.below hb
    have SS' : Hid (∃ (s : Ps) (tab : Nat → Nat → Option Nat), St X (pm0 rb b tb 40) root 1 (1 + a2) 0 37 s tab (lfSet (fun _ => none) n0 (some ⟨1, a0, b0, c0⟩)) w12 ∧ s.q ≤ 8000) := st_bel SS.out hb
    clear KK FA FD BB SS
    have KK := K'
    have FA := FA'
    have FD := FD'
    have BB := B'
    have SS := SS'
    clear K' FA' FD' B' SS'
    clear hb TW
    have UC : Hid (Calls Tryd.prog 17 #[.agg #[pp rb, pp b, pp tb, .int .i64 1]] w12 fun e w' => e = .returned (.int .i64 4) ∧ Below w12.heap.size w12 w') := by
      obtain ⟨s, tab, h, _⟩ := SS.out
      have q := h.used
      rw [HL1.out.2] at q
      exact q
    have BX := BB.out
    have x0 : w12.cell? ⟨B, 0, none⟩ = some (pp rb) := BX.cell 0
    have x1 : w12.cell? ⟨B, 1, none⟩ = some (pp b) := BX.cell 1
    have x2 : w12.cell? ⟨B, 2, none⟩ = some (pp tb) := BX.cell 2
    have x3 : w12.cell? ⟨B, 3, none⟩ = some (.int .i64 1) := BX.cell 3
    have lB := BX.lt
    clear BX
    have y0 := FA.out
    have y00 : w12.cell? ⟨A, 0, none⟩ = some (.int .i64 k0) := y0.cell 0
    have y01 : w12.cell? ⟨A, 1, none⟩ = some (.int .i64 (n0 : Int)) := y0.cell 1
    have y02 : w12.cell? ⟨A, 2, none⟩ = some (.int .i64 f0) := y0.cell 2
    have y03 : w12.cell? ⟨A, 3, none⟩ = some (.bool a0) := y0.cell 3
    have y04 : w12.cell? ⟨A, 4, none⟩ = some (.bool b0) := y0.cell 4
    have y05 : w12.cell? ⟨A, 5, none⟩ = some (.bool c0) := y0.cell 5
    have l0 := y0.lt
    clear y0
    have y1 := FD.out
    have y10 : w12.cell? ⟨D, 0, none⟩ = some (.int .i64 k1) := y1.cell 0
    have y11 : w12.cell? ⟨D, 1, none⟩ = some (.int .i64 (n1 : Int)) := y1.cell 1
    have y12 : w12.cell? ⟨D, 2, none⟩ = some (.int .i64 f1) := y1.cell 2
    have y13 : w12.cell? ⟨D, 3, none⟩ = some (.bool a1) := y1.cell 3
    have y14 : w12.cell? ⟨D, 4, none⟩ = some (.bool b1) := y1.cell 4
    have y15 : w12.cell? ⟨D, 5, none⟩ = some (.bool c1) := y1.cell 5
    have l1 := y1.lt
    clear y1
    go_wp2_with fail
    refine Calls.mono (UC.out) ?_
    rintro e w13 ⟨rfl, hb⟩
    clear x0 x1 x2 x3 lB y00 y01 y02 y03 y04 y05 y10 y11 y12 y13 y14 y15 l0 l1
    have K' : Hid (Kx XM w2 w13) := KK.out.trans ((Kx.of_below SS.out.choose_spec.choose_spec.1.pu hb).sub (fun j hj => XMH.out.1 j hj))
    have FA' : Hid (Blk w13 A [.int .i64 k0, .int .i64 (n0 : Int), .int .i64 f0, .bool a0, .bool b0, .bool c0] 42) := FA.out.below hb
    have FD' : Hid (Blk w13 D [.int .i64 k1, .int .i64 (n1 : Int), .int .i64 f1, .bool a1, .bool b1, .bool c1] 42) := FD.out.below hb
    have B' : Hid (Blk w13 B [pp rb, pp b, pp tb, .int .i64 1] 27) := BB.out.below hb
    have SS' : Hid (∃ (s : Ps) (tab : Nat → Nat → Option Nat), St X (pm0 rb b tb 40) root 1 (1 + a2) 0 37 s tab (lfSet (fun _ => none) n0 (some ⟨1, a0, b0, c0⟩)) w13 ∧ s.q ≤ 8000) := st_bel SS.out hb
    clear KK FA FD BB SS
    have KK := K'
    have FA := FA'
    have FD := FD'
    have BB := B'
    have SS := SS'
    clear K' FA' FD' B' SS'
    clear hb UC
    have PGC : Hid (Calls Tryd.prog 20 #[.agg #[pp rb, pp b, pp tb, .int .i64 1], .int .i64 root] w13 fun e w' => ∃ (pf : Option Addr) (cf : Nat), e = .returned (.slice pf 1 cf) ∧ Below w13.heap.size w13 w') := by
      obtain ⟨s, tab, h, _⟩ := SS.out
      have hl : (pgs (lfSet (fun _ => none) n0 (some ⟨1, a0, b0, c0⟩))).length = 1 := HL1.out.1
      refine (h.pages (by rw [hl]; omega)).mono ?_
      rintro e w' ⟨pf, n, cf, rfl, hL⟩
      have q := hL.len
      rw [hl] at q
      subst q
      exact ⟨pf, cf, rfl, hL.bel⟩
    have BX := BB.out
    have x0 : w13.cell? ⟨B, 0, none⟩ = some (pp rb) := BX.cell 0
    have x1 : w13.cell? ⟨B, 1, none⟩ = some (pp b) := BX.cell 1
    have x2 : w13.cell? ⟨B, 2, none⟩ = some (pp tb) := BX.cell 2
    have x3 : w13.cell? ⟨B, 3, none⟩ = some (.int .i64 1) := BX.cell 3
    have lB := BX.lt
    clear BX
    have y0 := FA.out
    have y00 : w13.cell? ⟨A, 0, none⟩ = some (.int .i64 k0) := y0.cell 0
    have y01 : w13.cell? ⟨A, 1, none⟩ = some (.int .i64 (n0 : Int)) := y0.cell 1
    have y02 : w13.cell? ⟨A, 2, none⟩ = some (.int .i64 f0) := y0.cell 2
    have y03 : w13.cell? ⟨A, 3, none⟩ = some (.bool a0) := y0.cell 3
    have y04 : w13.cell? ⟨A, 4, none⟩ = some (.bool b0) := y0.cell 4
    have y05 : w13.cell? ⟨A, 5, none⟩ = some (.bool c0) := y0.cell 5
    have l0 := y0.lt
    clear y0
    have y1 := FD.out
    have y10 : w13.cell? ⟨D, 0, none⟩ = some (.int .i64 k1) := y1.cell 0
    have y11 : w13.cell? ⟨D, 1, none⟩ = some (.int .i64 (n1 : Int)) := y1.cell 1
    have y12 : w13.cell? ⟨D, 2, none⟩ = some (.int .i64 f1) := y1.cell 2
    have y13 : w13.cell? ⟨D, 3, none⟩ = some (.bool a1) := y1.cell 3
    have y14 : w13.cell? ⟨D, 4, none⟩ = some (.bool b1) := y1.cell 4
    have y15 : w13.cell? ⟨D, 5, none⟩ = some (.bool c1) := y1.cell 5
    have l1 := y1.lt
    clear y1
    go_wp2_with fail
    refine Calls.mono (PGC.out) ?_
    rintro e w14 ⟨pf, cf, rfl, hb⟩
    clear x0 x1 x2 x3 lB y00 y01 y02 y03 y04 y05 y10 y11 y12 y13 y14 y15 l0 l1
    have K' : Hid (Kx XM w2 w14) := KK.out.trans ((Kx.of_below SS.out.choose_spec.choose_spec.1.pu hb).sub (fun j hj => XMH.out.1 j hj))
    have FA' : Hid (Blk w14 A [.int .i64 k0, .int .i64 (n0 : Int), .int .i64 f0, .bool a0, .bool b0, .bool c0] 42) := FA.out.below hb
    have FD' : Hid (Blk w14 D [.int .i64 k1, .int .i64 (n1 : Int), .int .i64 f1, .bool a1, .bool b1, .bool c1] 42) := FD.out.below hb
    have B' : Hid (Blk w14 B [pp rb, pp b, pp tb, .int .i64 1] 27) := BB.out.below hb
    have SS' : Hid (∃ (s : Ps) (tab : Nat → Nat → Option Nat), St X (pm0 rb b tb 40) root 1 (1 + a2) 0 37 s tab (lfSet (fun _ => none) n0 (some ⟨1, a0, b0, c0⟩)) w14 ∧ s.q ≤ 8000) := st_bel SS.out hb
    clear KK FA FD BB SS
    have KK := K'
    have FA := FA'
    have FD := FD'
    have BB := B'
    have SS := SS'
    clear K' FA' FD' B' SS'
    clear hb PGC
    have LE : Hid (Below w.heap.size w w14) := below_then LA.out.1 (BLW.out w14 KK.out)
    clear KK FA FD BB SS
    go_wp2_with fail
    go_ret
    exact ⟨by simp, LE.out⟩
  have MC : Hid (Calls Tryd.prog 26 #[.agg #[pp rb, pp b, pp tb, .int .i64 1], .int .i64 root, .int .i64 (n1 : Int), .int .i64 2, .agg #[.bool a1, .bool b1, .bool c1]] w8 fun e w' => e = .returned (.int .i64 0) ∧ ((∃ (s : Ps) (tab : Nat → Nat → Option Nat), St X (pm0 rb b tb 40) root 1 (1 + a2) 0 37 s tab (lfSet (lfSet (fun _ => none) n0 (some ⟨1, a0, b0, c0⟩)) n1 (some ⟨2, a1, b1, c1⟩)) w' ∧ s.q ≤ 8000) ∧ (pgs (lfSet (lfSet (fun _ => none) n0 (some ⟨1, a0, b0, c0⟩)) n1 (some ⟨2, a1, b1, c1⟩))).length = 2 ∧ tabsN (pgs (lfSet (lfSet (fun _ => none) n0 (some ⟨1, a0, b0, c0⟩)) n1 (some ⟨2, a1, b1, c1⟩))) = 4 + fz) ∧ Kx X w8 w') := by
    obtain ⟨s, tab, hs, hq⟩ := SS.out
    have t0 := HL1.out.2
    have q := hs.map_ok (by omega) (by omega) n1 m3 2 (by omega) a1 b1 c1 HF1.out.1 (by rw [t0, hfz]; omega)
    refine Calls.mono q ?_
    rintro e w' ⟨he, s', tab', h', hq', _, hk⟩
    have pm := pgs_more hs.rt.pw HF1.out.1 h'.rt.pw
    exact ⟨he, ⟨⟨s', tab', h', by omega⟩, (len_more pm).trans (by rw [HL1.out.1]), (tabs_perm pm).trans (by show tabsN _ + fresh _ _ = _; rw [t0, hfz])⟩, hk⟩
  have BX := BB.out
  have x0 : w8.cell? ⟨B, 0, none⟩ = some (pp rb) := BX.cell 0
  have x1 : w8.cell? ⟨B, 1, none⟩ = some (pp b) := BX.cell 1
  have x2 : w8.cell? ⟨B, 2, none⟩ = some (pp tb) := BX.cell 2
  have x3 : w8.cell? ⟨B, 3, none⟩ = some (.int .i64 1) := BX.cell 3
  have lB := BX.lt
  clear BX
  have y0 := FA.out
  have y00 : w8.cell? ⟨A, 0, none⟩ = some (.int .i64 k0) := y0.cell 0
  have y01 : w8.cell? ⟨A, 1, none⟩ = some (.int .i64 (n0 : Int)) := y0.cell 1
  have y02 : w8.cell? ⟨A, 2, none⟩ = some (.int .i64 f0) := y0.cell 2
  have y03 : w8.cell? ⟨A, 3, none⟩ = some (.bool a0) := y0.cell 3
  have y04 : w8.cell? ⟨A, 4, none⟩ = some (.bool b0) := y0.cell 4
  have y05 : w8.cell? ⟨A, 5, none⟩ = some (.bool c0) := y0.cell 5
  have l0 := y0.lt
  clear y0
  have y1 := FD.out
  have y10 : w8.cell? ⟨D, 0, none⟩ = some (.int .i64 k1) := y1.cell 0
  have y11 : w8.cell? ⟨D, 1, none⟩ = some (.int .i64 (n1 : Int)) := y1.cell 1
  have y12 : w8.cell? ⟨D, 2, none⟩ = some (.int .i64 f1) := y1.cell 2
  have y13 : w8.cell? ⟨D, 3, none⟩ = some (.bool a1) := y1.cell 3
  have y14 : w8.cell? ⟨D, 4, none⟩ = some (.bool b1) := y1.cell 4
  have y15 : w8.cell? ⟨D, 5, none⟩ = some (.bool c1) := y1.cell 5
  have l1 := y1.lt
  clear y1
  go_wp2_with fail
  refine Calls.mono (MC.out) ?_
  rintro e w9 ⟨rfl, hs, hk⟩
  clear x0 x1 x2 x3 lB y00 y01 y02 y03 y04 y05 y10 y11 y12 y13 y14 y15 l0 l1
  have K' : Hid (Kx XM w2 w9) := KK.out.trans (hk.sub (fun j hj => XMH.out.1 j hj))
  have FA' : Hid (Blk w9 A [.int .i64 k0, .int .i64 (n0 : Int), .int .i64 f0, .bool a0, .bool b0, .bool c0] 42) := FA.out.kx hk (XMH.out.1 A XA.out.1)
  have FD' : Hid (Blk w9 D [.int .i64 k1, .int .i64 (n1 : Int), .int .i64 f1, .bool a1, .bool b1, .bool c1] 42) := FD.out.kx hk (XMH.out.1 D XA.out.2)
  have B' : Hid (Blk w9 B [pp rb, pp b, pp tb, .int .i64 1] 27) := BB.out.kx hk XB.out.1
  clear KK FA FD BB
  have KK := K'
  have FA := FA'
  have FD := FD'
  have BB := B'
  clear K' FA' FD' B'
  clear SS
  have SS : Hid (∃ (s : Ps) (tab : Nat → Nat → Option Nat), St X (pm0 rb b tb 40) root 1 (1 + a2) 0 37 s tab (lfSet (lfSet (fun _ => none) n0 (some ⟨1, a0, b0, c0⟩)) n1 (some ⟨2, a1, b1, c1⟩)) w9 ∧ s.q ≤ 8000) := hs.1
  have HL2 : Hid ((pgs (lfSet (lfSet (fun _ => none) n0 (some ⟨1, a0, b0, c0⟩)) n1 (some ⟨2, a1, b1, c1⟩))).length = 2 ∧ tabsN (pgs (lfSet (lfSet (fun _ => none) n0 (some ⟨1, a0, b0, c0⟩)) n1 (some ⟨2, a1, b1, c1⟩))) = 4 + fz) := hs.2
  clear hs hk MC
  have QC : Hid (Calls Tryd.prog 28 #[.agg #[pp rb, pp b, pp tb, .int .i64 1], .int .i64 root, .int .i64 (n0 : Int)] w9 fun e w' => e = .returned (.tuple #[.int .i64 1, .agg #[.bool a0, .bool b0, .bool c0], .bool true]) ∧ Below w9.heap.size w9 w') := by
    obtain ⟨s, tab, hs, hq⟩ := SS.out
    have q := query_any hs.pu hs.rt 1 n0
    rw [show (lfSet (lfSet (fun _ => none) n0 (some ⟨1, a0, b0, c0⟩)) n1 (some ⟨2, a1, b1, c1⟩)) n0 = some ⟨1, a0, b0, c0⟩ from ((lf_other m4).trans HF1.out.2)] at q
    exact q
  have BX := BB.out
  have x0 : w9.cell? ⟨B, 0, none⟩ = some (pp rb) := BX.cell 0
  have x1 : w9.cell? ⟨B, 1, none⟩ = some (pp b) := BX.cell 1
  have x2 : w9.cell? ⟨B, 2, none⟩ = some (pp tb) := BX.cell 2
  have x3 : w9.cell? ⟨B, 3, none⟩ = some (.int .i64 1) := BX.cell 3
  have lB := BX.lt
  clear BX
  have y0 := FA.out
  have y00 : w9.cell? ⟨A, 0, none⟩ = some (.int .i64 k0) := y0.cell 0
  have y01 : w9.cell? ⟨A, 1, none⟩ = some (.int .i64 (n0 : Int)) := y0.cell 1
  have y02 : w9.cell? ⟨A, 2, none⟩ = some (.int .i64 f0) := y0.cell 2
  have y03 : w9.cell? ⟨A, 3, none⟩ = some (.bool a0) := y0.cell 3
  have y04 : w9.cell? ⟨A, 4, none⟩ = some (.bool b0) := y0.cell 4
  have y05 : w9.cell? ⟨A, 5, none⟩ = some (.bool c0) := y0.cell 5
  have l0 := y0.lt
  clear y0
  have y1 := FD.out
  have y10 : w9.cell? ⟨D, 0, none⟩ = some (.int .i64 k1) := y1.cell 0
  have y11 : w9.cell? ⟨D, 1, none⟩ = some (.int .i64 (n1 : Int)) := y1.cell 1
  have y12 : w9.cell? ⟨D, 2, none⟩ = some (.int .i64 f1) := y1.cell 2
  have y13 : w9.cell? ⟨D, 3, none⟩ = some (.bool a1) := y1.cell 3
  have y14 : w9.cell? ⟨D, 4, none⟩ = some (.bool b1) := y1.cell 4
  have y15 : w9.cell? ⟨D, 5, none⟩ = some (.bool c1) := y1.cell 5
  have l1 := y1.lt
  clear y1
  go_wp2_with fail
  refine Calls.mono QC.out ?_
  rintro e w10 ⟨rfl, hb10⟩
  have hbb : Below w9.heap.size w9 (w10.alloc (.cells #[.bool a0, .bool b0, .bool c0] 40)) := below_new hb10 _
  have FM : Hid (Blk (w10.alloc (.cells #[.bool a0, .bool b0, .bool c0] 40)) w10.heap.size [.bool a0, .bool b0, .bool c0] 40 ∧ Below w9.heap.size w9 (w10.alloc (.cells #[.bool a0, .bool b0, .bool c0] 40))) := ⟨Blk.made w10 [.bool a0, .bool b0, .bool c0] 40, hbb⟩
  clear hb10 hbb QC x0 x1 x2 x3 lB y00 y01 y02 y03 y04 y05 y10 y11 y12 y13 y14 y15 l0 l1
  go_upto_region 18 with fail
  generalize (w10.alloc (.cells #[.bool a0, .bool b0, .bool c0] 40)) = w11 at FM ⊢
  generalize w10.heap.size = MM at FM ⊢
  have hb := FM.out.2
  have K' : Hid (Kx XM w2 w11) := KK.out.trans ((Kx.of_below SS.out.choose_spec.choose_spec.1.pu hb).sub (fun j hj => XMH.out.1 j hj))
  have FA' : Hid (Blk w11 A [.int .i64 k0, .int .i64 (n0 : Int), .int .i64 f0, .bool a0, .bool b0, .bool c0] 42) := FA.out.below hb
  have FD' : Hid (Blk w11 D [.int .i64 k1, .int .i64 (n1 : Int), .int .i64 f1, .bool a1, .bool b1, .bool c1] 42) := FD.out.below hb
  have B' : Hid (Blk w11 B [pp rb, pp b, pp tb, .int .i64 1] 27) := BB.out.below hb
  have SS' : Hid (∃ (s : Ps) (tab : Nat → Nat → Option Nat), St X (pm0 rb b tb 40) root 1 (1 + a2) 0 37 s tab (lfSet (lfSet (fun _ => none) n0 (some ⟨1, a0, b0, c0⟩)) n1 (some ⟨2, a1, b1, c1⟩)) w11 ∧ s.q ≤ 8000) := st_bel SS.out hb
  clear KK FA FD BB SS
  have KK := K'
  have FA := FA'
  have FD := FD'
  have BB := B'
  have SS := SS'
  clear K' FA' FD' B' SS'
  clear hb
  have ym := FM.out.1
  have m30 : w11.cell? ⟨MM, 0, none⟩ = some (.bool a0) := ym.cell 0
  have m31 : w11.cell? ⟨MM, 1, none⟩ = some (.bool b0) := ym.cell 1
  have m32 : w11.cell? ⟨MM, 2, none⟩ = some (.bool c0) := ym.cell 2
  have ml := ym.lt
  clear ym FM
  have ne := nePermS
  have y0 := FA.out
  have y00 : w11.cell? ⟨A, 0, none⟩ = some (.int .i64 k0) := y0.cell 0
  have y01 : w11.cell? ⟨A, 1, none⟩ = some (.int .i64 (n0 : Int)) := y0.cell 1
  have y02 : w11.cell? ⟨A, 2, none⟩ = some (.int .i64 f0) := y0.cell 2
  have y03 : w11.cell? ⟨A, 3, none⟩ = some (.bool a0) := y0.cell 3
  have y04 : w11.cell? ⟨A, 4, none⟩ = some (.bool b0) := y0.cell 4
  have y05 : w11.cell? ⟨A, 5, none⟩ = some (.bool c0) := y0.cell 5
  have l0 := y0.lt
  clear y0
  have y1 := FD.out
  have y10 : w11.cell? ⟨D, 0, none⟩ = some (.int .i64 k1) := y1.cell 0
  have y11 : w11.cell? ⟨D, 1, none⟩ = some (.int .i64 (n1 : Int)) := y1.cell 1
  have y12 : w11.cell? ⟨D, 2, none⟩ = some (.int .i64 f1) := y1.cell 2
  have y13 : w11.cell? ⟨D, 3, none⟩ = some (.bool a1) := y1.cell 3
  have y14 : w11.cell? ⟨D, 4, none⟩ = some (.bool b1) := y1.cell 4
  have y15 : w11.cell? ⟨D, 5, none⟩ = some (.bool c1) := y1.cell 5
  have l1 := y1.lt
  clear y1
  go_upto_region 22 with fail
  clear m30 m31 m32 ml ne y00 y01 y02 y03 y04 y05 y10 y11 y12 y13 y14 y15 l0 l1
  have c5 : IntKind.i64.wrap (1 + a2) = 1 + a2 := by simp only [IntKind.wrap_i64]; omega
  have c6 : decide (((4 + fz : Nat) : Int) ≤ 1 + a2) = true := by simp; omega
  have TW : Hid (Tab w11) := LA.out.2.below (BLW.out w11 KK.out) (by have := XA.out; have := LA.out.2.1; exact this)
  have BX := BB.out
  have x0 : w11.cell? ⟨B, 0, none⟩ = some (pp rb) := BX.cell 0
  have x1 : w11.cell? ⟨B, 1, none⟩ = some (pp b) := BX.cell 1
  have x2 : w11.cell? ⟨B, 2, none⟩ = some (pp tb) := BX.cell 2
  have x3 : w11.cell? ⟨B, 3, none⟩ = some (.int .i64 1) := BX.cell 3
  have lB := BX.lt
  clear BX
  have y0 := FA.out
  have y00 : w11.cell? ⟨A, 0, none⟩ = some (.int .i64 k0) := y0.cell 0
  have y01 : w11.cell? ⟨A, 1, none⟩ = some (.int .i64 (n0 : Int)) := y0.cell 1
  have y02 : w11.cell? ⟨A, 2, none⟩ = some (.int .i64 f0) := y0.cell 2
  have y03 : w11.cell? ⟨A, 3, none⟩ = some (.bool a0) := y0.cell 3
  have y04 : w11.cell? ⟨A, 4, none⟩ = some (.bool b0) := y0.cell 4
  have y05 : w11.cell? ⟨A, 5, none⟩ = some (.bool c0) := y0.cell 5
  have l0 := y0.lt
  clear y0
  have y1 := FD.out
  have y10 : w11.cell? ⟨D, 0, none⟩ = some (.int .i64 k1) := y1.cell 0
  have y11 : w11.cell? ⟨D, 1, none⟩ = some (.int .i64 (n1 : Int)) := y1.cell 1
  have y12 : w11.cell? ⟨D, 2, none⟩ = some (.int .i64 f1) := y1.cell 2
  have y13 : w11.cell? ⟨D, 3, none⟩ = some (.bool a1) := y1.cell 3
  have y14 : w11.cell? ⟨D, 4, none⟩ = some (.bool b1) := y1.cell 4
  have y15 : w11.cell? ⟨D, 5, none⟩ = some (.bool c1) := y1.cell 5
  have l1 := y1.lt
  clear y1
  go_wp2_with fail
  refine Calls.mono (AW.out w11 TW.out) ?_
  rintro e w12 ⟨rfl, hb⟩
  clear x0 x1 x2 x3 lB y00 y01 y02 y03 y04 y05 y10 y11 y12 y13 y14 y15 l0 l1
  have K' : Hid (Kx XM w2 w12) := KK.out.trans ((Kx.of_below SS.out.choose_spec.choose_spec.1.pu hb).sub (fun j hj => XMH.out.1 j hj))
  have FA' : Hid (Blk w12 A [.int .i64 k0, .int .i64 (n0 : Int), .int .i64 f0, .bool a0, .bool b0, .bool c0] 42) := FA.out.below hb
  have FD' : Hid (Blk w12 D [.int .i64 k1, .int .i64 (n1 : Int), .int .i64 f1, .bool a1, .bool b1, .bool c1] 42) := FD.out.below hb
  have B' : Hid (Blk w12 B [pp rb, pp b, pp tb, .int .i64 1] 27) := BB.out.below hb
  have SS' : Hid (∃ (s : Ps) (tab : Nat → Nat → Option Nat), St X (pm0 rb b tb 40) root 1 (1 + a2) 0 37 s tab (lfSet (lfSet (fun _ => none) n0 (some ⟨1, a0, b0, c0⟩)) n1 (some ⟨2, a1, b1, c1⟩)) w12 ∧ s.q ≤ 8000) := st_bel SS.out hb
  clear KK FA FD BB SS
  have KK := K'
  have FA := FA'
  have FD := FD'
  have BB := B'
  have SS := SS'
  clear K' FA' FD' B' SS'
  clear hb TW
  have UC : Hid (Calls Tryd.prog 17 #[.agg #[pp rb, pp b, pp tb, .int .i64 1]] w12 fun e w' => e = .returned (.int .i64 ((4 + fz : Nat) : Int)) ∧ Below w12.heap.size w12 w') := by
    obtain ⟨s, tab, h, _⟩ := SS.out
    have q := h.used
    rw [HL2.out.2, Int.zero_add] at q
    exact q
  have BX := BB.out
  have x0 : w12.cell? ⟨B, 0, none⟩ = some (pp rb) := BX.cell 0
  have x1 : w12.cell? ⟨B, 1, none⟩ = some (pp b) := BX.cell 1
  have x2 : w12.cell? ⟨B, 2, none⟩ = some (pp tb) := BX.cell 2
  have x3 : w12.cell? ⟨B, 3, none⟩ = some (.int .i64 1) := BX.cell 3
  have lB := BX.lt
  clear BX
  have y0 := FA.out
  have y00 : w12.cell? ⟨A, 0, none⟩ = some (.int .i64 k0) := y0.cell 0
  have y01 : w12.cell? ⟨A, 1, none⟩ = some (.int .i64 (n0 : Int)) := y0.cell 1
  have y02 : w12.cell? ⟨A, 2, none⟩ = some (.int .i64 f0) := y0.cell 2
  have y03 : w12.cell? ⟨A, 3, none⟩ = some (.bool a0) := y0.cell 3
  have y04 : w12.cell? ⟨A, 4, none⟩ = some (.bool b0) := y0.cell 4
  have y05 : w12.cell? ⟨A, 5, none⟩ = some (.bool c0) := y0.cell 5
  have l0 := y0.lt
  clear y0
  have y1 := FD.out
  have y10 : w12.cell? ⟨D, 0, none⟩ = some (.int .i64 k1) := y1.cell 0
  have y11 : w12.cell? ⟨D, 1, none⟩ = some (.int .i64 (n1 : Int)) := y1.cell 1
  have y12 : w12.cell? ⟨D, 2, none⟩ = some (.int .i64 f1) := y1.cell 2
  have y13 : w12.cell? ⟨D, 3, none⟩ = some (.bool a1) := y1.cell 3
  have y14 : w12.cell? ⟨D, 4, none⟩ = some (.bool b1) := y1.cell 4
  have y15 : w12.cell? ⟨D, 5, none⟩ = some (.bool c1) := y1.cell 5
  have l1 := y1.lt
  clear y1
  go_wp2_with fail
  refine Calls.mono (UC.out) ?_
  rintro e w13 ⟨rfl, hb⟩
  clear x0 x1 x2 x3 lB y00 y01 y02 y03 y04 y05 y10 y11 y12 y13 y14 y15 l0 l1
  have K' : Hid (Kx XM w2 w13) := KK.out.trans ((Kx.of_below SS.out.choose_spec.choose_spec.1.pu hb).sub (fun j hj => XMH.out.1 j hj))
  have FA' : Hid (Blk w13 A [.int .i64 k0, .int .i64 (n0 : Int), .int .i64 f0, .bool a0, .bool b0, .bool c0] 42) := FA.out.below hb
  have FD' : Hid (Blk w13 D [.int .i64 k1, .int .i64 (n1 : Int), .int .i64 f1, .bool a1, .bool b1, .bool c1] 42) := FD.out.below hb
  have B' : Hid (Blk w13 B [pp rb, pp b, pp tb, .int .i64 1] 27) := BB.out.below hb
  have SS' : Hid (∃ (s : Ps) (tab : Nat → Nat → Option Nat), St X (pm0 rb b tb 40) root 1 (1 + a2) 0 37 s tab (lfSet (lfSet (fun _ => none) n0 (some ⟨1, a0, b0, c0⟩)) n1 (some ⟨2, a1, b1, c1⟩)) w13 ∧ s.q ≤ 8000) := st_bel SS.out hb
  clear KK FA FD BB SS
  have KK := K'
  have FA := FA'
  have FD := FD'
  have BB := B'
  have SS := SS'
  clear K' FA' FD' B' SS'
  clear hb UC
  have PGC : Hid (Calls Tryd.prog 20 #[.agg #[pp rb, pp b, pp tb, .int .i64 1], .int .i64 root] w13 fun e w' => ∃ (pf : Option Addr) (cf : Nat), e = .returned (.slice pf 2 cf) ∧ Below w13.heap.size w13 w') := by
    obtain ⟨s, tab, h, _⟩ := SS.out
    have hl : (pgs (lfSet (lfSet (fun _ => none) n0 (some ⟨1, a0, b0, c0⟩)) n1 (some ⟨2, a1, b1, c1⟩))).length = 2 := HL2.out.1
    refine (h.pages (by rw [hl]; omega)).mono ?_
    rintro e w' ⟨pf, n, cf, rfl, hL⟩
    have q := hL.len
    rw [hl] at q
    subst q
    exact ⟨pf, cf, rfl, hL.bel⟩
  have BX := BB.out
  have x0 : w13.cell? ⟨B, 0, none⟩ = some (pp rb) := BX.cell 0
  have x1 : w13.cell? ⟨B, 1, none⟩ = some (pp b) := BX.cell 1
  have x2 : w13.cell? ⟨B, 2, none⟩ = some (pp tb) := BX.cell 2
  have x3 : w13.cell? ⟨B, 3, none⟩ = some (.int .i64 1) := BX.cell 3
  have lB := BX.lt
  clear BX
  have y0 := FA.out
  have y00 : w13.cell? ⟨A, 0, none⟩ = some (.int .i64 k0) := y0.cell 0
  have y01 : w13.cell? ⟨A, 1, none⟩ = some (.int .i64 (n0 : Int)) := y0.cell 1
  have y02 : w13.cell? ⟨A, 2, none⟩ = some (.int .i64 f0) := y0.cell 2
  have y03 : w13.cell? ⟨A, 3, none⟩ = some (.bool a0) := y0.cell 3
  have y04 : w13.cell? ⟨A, 4, none⟩ = some (.bool b0) := y0.cell 4
  have y05 : w13.cell? ⟨A, 5, none⟩ = some (.bool c0) := y0.cell 5
  have l0 := y0.lt
  clear y0
  have y1 := FD.out
  have y10 : w13.cell? ⟨D, 0, none⟩ = some (.int .i64 k1) := y1.cell 0
  have y11 : w13.cell? ⟨D, 1, none⟩ = some (.int .i64 (n1 : Int)) := y1.cell 1
  have y12 : w13.cell? ⟨D, 2, none⟩ = some (.int .i64 f1) := y1.cell 2
  have y13 : w13.cell? ⟨D, 3, none⟩ = some (.bool a1) := y1.cell 3
  have y14 : w13.cell? ⟨D, 4, none⟩ = some (.bool b1) := y1.cell 4
  have y15 : w13.cell? ⟨D, 5, none⟩ = some (.bool c1) := y1.cell 5
  have l1 := y1.lt
  clear y1
  go_wp2_with fail
  refine Calls.mono (PGC.out) ?_
  rintro e w14 ⟨pf, cf, rfl, hb⟩
  clear x0 x1 x2 x3 lB y00 y01 y02 y03 y04 y05 y10 y11 y12 y13 y14 y15 l0 l1
  have K' : Hid (Kx XM w2 w14) := KK.out.trans ((Kx.of_below SS.out.choose_spec.choose_spec.1.pu hb).sub (fun j hj => XMH.out.1 j hj))
  have FA' : Hid (Blk w14 A [.int .i64 k0, .int .i64 (n0 : Int), .int .i64 f0, .bool a0, .bool b0, .bool c0] 42) := FA.out.below hb
  have FD' : Hid (Blk w14 D [.int .i64 k1, .int .i64 (n1 : Int), .int .i64 f1, .bool a1, .bool b1, .bool c1] 42) := FD.out.below hb
  have B' : Hid (Blk w14 B [pp rb, pp b, pp tb, .int .i64 1] 27) := BB.out.below hb
  have SS' : Hid (∃ (s : Ps) (tab : Nat → Nat → Option Nat), St X (pm0 rb b tb 40) root 1 (1 + a2) 0 37 s tab (lfSet (lfSet (fun _ => none) n0 (some ⟨1, a0, b0, c0⟩)) n1 (some ⟨2, a1, b1, c1⟩)) w14 ∧ s.q ≤ 8000) := st_bel SS.out hb
  clear KK FA FD BB SS
  have KK := K'
  have FA := FA'
  have FD := FD'
  have BB := B'
  have SS := SS'
  clear K' FA' FD' B' SS'
  clear hb PGC
  have LE : Hid (Below w.heap.size w w14) := below_then LA.out.1 (BLW.out w14 KK.out)
  clear KK FA FD BB SS
  go_wp2_with fail
  go_ret
  exact ⟨by simp, LE.out⟩

set_option maxRecDepth 100000 in
theorem lifted (os : Os) (started : os.Started) (H : Type) (enc : TypeId × Value → H) :
    ReturnsInHanded {} Tryd.checked os 7 .any (fun w args => (Rows.tableWholeSpec.pre enc Tryd.prog Tryd.f7 [] false w args ∧ laidMetH Tryd.prog laidL w) ∧ sizedMet enc Tryd.prog Tryd.f7 (OpenSpec.ofChange Rows.tableWholeSpec) false w args)
      (Rows.tableWholeSpec.post enc Tryd.prog Tryd.f7 false true false false) := by
  refine returnsInHanded_of_change_and (C := Tryd.checked) (X := fun w _ => laidMetH Tryd.prog laidL w) (fun _ _ _ hh h => h.of_heap hh) own started (by kernel_rfl) Tryd.func7
    (ChangeSpec.witness_shaped (enc := enc) (C := Tryd.checked) (os := os) (X := fun w _ => laidMetH Tryd.prog laidL w) false (World.doorLaid Tryd.prog 400 os) #[.agg #[.int .i64 0, .int .i64 0, .int .i64 0, .bool false, .bool false, .bool false], .agg #[.int .i64 0, .int .i64 0, .int .i64 0, .bool false, .bool false, .bool false], .int .i64 0] 8 rfl (World.shaped_of_RefB (by kernel_rfl) (by kernel_rfl)) (by kernel_rfl) (by kernel_rfl) (by kernel_rfl) (door_met os _)) ?_
  intro W base args ds gs before hval0 hW _ _ hL _
  have hval : ∀ (j : Nat) t v, Tryd.f7.params[j]? = some t → args[j]? = some v → Value.okWide Tryd.prog W .any base t v := hval0
  have hW' := hW
  obtain ⟨p, q, hA0, hV, hbef, hfz, hnd⟩ := hW
  have hA : DataW.TrodAll enc Tryd.prog W 0 (fun _ => true) true Tryd.f7.params.toList args.toList ds p := hA0
  have hAk := hA
  have hlt : ∀ x ∈ p, x.block < W.heap.size := fun x hx => hW'.lt x (by rw [hbef]; exact List.mem_append_left _ hx)
  rw [Tryd.params7] at hA hval
  obtain ⟨v0, vs0, d0, ds0, p0, q0, hargs, rfl, hp0, h0, r0⟩ := trodAll_cons hA
  obtain ⟨v1, vs1, d1, ds1, p1, q1, rfl, rfl, hp1, h1, r1⟩ := trodAll_cons r0
  obtain ⟨v2, vs2, d2, ds2, p2, q2, rfl, rfl, hp2, h2, r2⟩ := trodAll_cons r1
  obtain ⟨rfl, rfl, hpz⟩ := trodAll_nil r2
  obtain rfl : args = #[v0, v1, v2] := by cases args; simp_all
  obtain ⟨rfl, rfl⟩ := trodVars_none hV
  obtain ⟨s0, rfl, w0p, w0f⟩ := open_act (hval 0 42 v0 rfl rfl) h0
  obtain ⟨s1, rfl, w1p, w1f⟩ := open_act (hval 1 42 v1 rfl rfl) h1
  obtain ⟨a2, rfl, _, _, w2⟩ := open_int Tryd.underlying3 (hval 2 3 v2 rfl rfl) h2
  clear hA0 hval0
  refine (walk s0 w0p w0f s1 w1p w1f a2 w2 W (of_laid hL) ).mono fun e W' ⟨he, hg⟩ => ?_
  subst he
  exact ⟨_, rfl, ⟨_, _, _, [], p, [], hW', (trodAll_cons_mk (shut_bool Tryd.underlying4 _) trodAll_mk0), args_stay laidOut hg (by kernel_rfl) hAk hlt, rfl, hg.frame _, fun h => by cases h⟩⟩

theorem over : Rows.tableWholeRow.holds Tryd.pinned (OpenSpec.ofChange Rows.tableWholeSpec) :=
  OpenClaim.holds_of_wide 7 Tryd.f7 rfl rfl rfl rfl rfl rfl rfl ⟨rfl, rfl, rfl, rfl, rfl⟩ rfl rfl rfl rfl rfl (by kernel_rfl) Tryd.func7 (by kernel_rfl)
    (of_decide_eq_true (by kernel_rfl)) (by unfold Func.isWrapper; first | (rw [if_pos (by decide +kernel)]; kernel_rfl) | (rw [if_neg (by decide +kernel)]; exact ⟨rfl, rfl⟩))
    (fun os started H enc _ => lifted os started H enc)

theorem proved : Rows.TableWholeCardSaid :=
  Claim7.holds_tied_plain_at .later [] [.data] true (true, "64c8694732dce4494ae4c7601e39c35f2573908f76922d47bdd02e269d73e0bb") true
    over (fun _ h => by cases h) (by kernel_rfl) (fun _ h => by cases h) tableWhole_row_tie rfl ⟨rfl, rfl⟩ (by kernel_rfl) rfl
    (fun f fn hf hfn => by
      obtain rfl : f = 7 := Option.some.inj ((show Tryd.prog.funcNamed "demesne/demesnelaw09.TableWhole" = some 7 by kernel_rfl).symm.trans hf) |>.symm
      obtain rfl : fn = Tryd.f7 := (Option.some.inj (Tryd.func7.symm.trans hfn)).symm
      exact ⟨by kernel_rfl, fun j t ht => by
        rw [Tryd.params7] at ht
        have hm : t ∈ [42, 42, 3] := by simpa using Array.mem_of_getElem? ht
        have hall : ([42, 42, 3].all fun u => !Tryd.prog.wantsStandIn u) = true := by kernel_rfl
        exact (show Tryd.prog.wantsStandIn t = false by simpa using List.all_eq_true.1 hall t hm)⟩)
    (by kernel_rfl)
#print axioms proved
end Go.Proofs.YtkiclbnbnjbcaaaDoor.tableWhole
