/- TableNear: of a row of pages in one table of level 1 the first one costs three tables, the others none; Pages tells just them. No condition. -/
import Derived.Test.YtkiclbnbnjbcaaaDoorRows
import Derived.Test.YtkiclbnbnjbcaaaDoorCards
import Derived.Test.YtkiclbnbnjbcaaaDoorTie
import Derived.ProofKit
import Derived.OpenShut
import Derived.Stop.Joined
import Derived.SevenTiedAt
import Derived.Test.YtkiclbnbnjbcaaaDoorME
namespace Go.Proofs.YtkiclbnbnjbcaaaDoor.tableNear
open Go.ChangeShapes Go.WideShapes Go.ChangeAt Go.RowKit
set_option linter.unusedSimpArgs false
set_option linter.unusedVariables false
open Go.Proofs.YtkiclbnbnjbcaaaDoor.Tt
set_option maxRecDepth 8000
theorem below_dr (W : World) : Below W.heap.size W W.drew := ⟨rfl, rfl, rfl, Nat.le_refl _, fun _ _ => rfl⟩
theorem kx_drew (X : Nat → Prop) (W : World) : Kx X W W.drew := ⟨rfl, rfl, rfl, Nat.le_refl _, fun _ _ => rfl⟩
theorem kx_near {X : Nat → Prop} {m : Pm} {root base i : Nat} {W w : World} (h : Near X m root base i W) (hb : Below W.heap.size W w) : Kx X W w := by
  obtain ⟨s, tab, lf, hq, hp, _⟩ := h
  exact Kx.of_below hp hb
theorem near_drew {X : Nat → Prop} {m : Pm} {root base i : Nat} {W : World} (h : Near X m root base i W) : Near X m root base i W.drew := near_below h (below_dr W)

set_option maxHeartbeats 8000000 in
theorem walk (a0 : Int) (w0 : (Lit.int .i64 a0).wf = true) (a1 : Int) (w1 : (Lit.int .i64 a1).wf = true) (a2 : Int) (w2 : (Lit.int .i64 a2).wf = true) (w : World) (ht : Tab w)  :
    Calls Tryd.prog 8 #[.int .i64 a0, .int .i64 a1, .int .i64 a2] w fun e w' => e = .returned (.bool true) ∧ Below w.heap.size w w' := by
  have AW : Hid (∀ W : World, Tab W → Calls Tryd.prog 10 #[] W fun e w' => e = .returned (.bool true) ∧ Below W.heap.size W w') := fun W t => awake_any W t
  have HT : Hid (Tab w) := ht
  have WP : Hid (0 < w.heap.size) := ht.1
  clear ht
  by_cases k0 : a0 < 0
  · have d0 : decide (a0 < 0) = true := by simp [k0]
    go_enter Tryd.func8, Tryd.ntmps8
    go_wp2_with fail
    refine Calls.mono (AW.out w HT.out) ?_
    rintro e w1 ⟨rfl, hb⟩
    have HB1 : Hid (Below w.heap.size w w1) := hb
    clear hb
    go_wp2_with fail
    go_ret
    exact ⟨rfl, HB1.out⟩
  have d0 : decide (a0 < 0) = false := by simp; omega
  by_cases k1 : 67108864 ≤ a0
  · have d1 : decide (67108864 ≤ a0) = true := by simp [k1]
    go_enter Tryd.func8, Tryd.ntmps8
    go_wp2_with fail
    refine Calls.mono (AW.out w HT.out) ?_
    rintro e w1 ⟨rfl, hb⟩
    have HB1 : Hid (Below w.heap.size w w1) := hb
    clear hb
    go_wp2_with fail
    go_ret
    exact ⟨rfl, HB1.out⟩
  have d1 : decide (67108864 ≤ a0) = false := by simp; omega
  by_cases k2 : a1 < 0
  · have d2 : decide (a1 < 0) = true := by simp [k2]
    go_enter Tryd.func8, Tryd.ntmps8
    go_wp2_with fail
    refine Calls.mono (AW.out w HT.out) ?_
    rintro e w1 ⟨rfl, hb⟩
    have HB1 : Hid (Below w.heap.size w w1) := hb
    clear hb
    go_wp2_with fail
    go_ret
    exact ⟨rfl, HB1.out⟩
  have d2 : decide (a1 < 0) = false := by simp; omega
  by_cases k3 : 511 < a1
  · have d3 : decide (511 < a1) = true := by simp [k3]
    go_enter Tryd.func8, Tryd.ntmps8
    go_wp2_with fail
    refine Calls.mono (AW.out w HT.out) ?_
    rintro e w1 ⟨rfl, hb⟩
    have HB1 : Hid (Below w.heap.size w w1) := hb
    clear hb
    go_wp2_with fail
    go_ret
    exact ⟨rfl, HB1.out⟩
  have d3 : decide (511 < a1) = false := by simp; omega
  by_cases k4 : a2 < 1
  · have d4 : decide (a2 < 1) = true := by simp [k4]
    go_enter Tryd.func8, Tryd.ntmps8
    go_wp2_with fail
    refine Calls.mono (AW.out w HT.out) ?_
    rintro e w1 ⟨rfl, hb⟩
    have HB1 : Hid (Below w.heap.size w w1) := hb
    clear hb
    go_wp2_with fail
    go_ret
    exact ⟨rfl, HB1.out⟩
  have d4 : decide (a2 < 1) = false := by simp; omega
  by_cases k5 : 200 < a2
  · have d5 : decide (200 < a2) = true := by simp [k5]
    go_enter Tryd.func8, Tryd.ntmps8
    go_wp2_with fail
    refine Calls.mono (AW.out w HT.out) ?_
    rintro e w1 ⟨rfl, hb⟩
    have HB1 : Hid (Below w.heap.size w w1) := hb
    clear hb
    go_wp2_with fail
    go_ret
    exact ⟨rfl, HB1.out⟩
  have d5 : decide (200 < a2) = false := by simp; omega
  have v0 : IntKind.i64.wrap (a1 + a2) = a1 + a2 := by simp only [IntKind.wrap_i64]; omega
  by_cases k6 : 512 < a1 + a2
  · have d6 : decide (512 < a1 + a2) = true := by simp [k6]
    go_enter Tryd.func8, Tryd.ntmps8
    go_wp2_with fail
    refine Calls.mono (AW.out w HT.out) ?_
    rintro e w1 ⟨rfl, hb⟩
    have HB1 : Hid (Below w.heap.size w w1) := hb
    clear hb
    go_wp2_with fail
    go_ret
    exact ⟨rfl, HB1.out⟩
  have d6 : decide (512 < a1 + a2) = false := by simp; omega
  have PC : Hid _ := purse_ok w HT.out 20 20 (by omega) (by omega) (by omega) (by omega)
  obtain ⟨base, hbase⟩ : ∃ base : Nat, (base : Int) = a0 * 512 + a1 := ⟨(a0 * 512 + a1).toNat, by omega⟩
  obtain ⟨n, hn⟩ : ∃ n : Nat, (n : Int) = a2 := ⟨a2.toNat, by omega⟩
  subst hn
  have HN : Hid (1 ≤ n ∧ n ≤ 200 ∧ base % 512 + n ≤ 512 ∧ base + n ≤ 34359738368) := ⟨by omega, by omega, by omega, by omega⟩
  go_enter Tryd.func8, Tryd.ntmps8
  go_wp2_with fail
  refine Calls.mono PC.out ?_
  rintro e w1 ⟨rb, b, tb, rfl, hp1, hb1⟩
  obtain ⟨X, hX⟩ : ∃ X : Nat → Prop, X = XW (fun j => j < w.heap.size) w1 (w1.alloc (.cells #[pp rb, pp b, pp tb, .int .i64 0] 27)) := ⟨_, rfl⟩
  have F2 : Hid (Pu X (w1.alloc (.cells #[pp rb, pp b, pp tb, .int .i64 0] 27)) (pm0 rb b tb 20) (ps0 (from1 20) 20) ∧ Blk (w1.alloc (.cells #[pp rb, pp b, pp tb, .int .i64 0] 27)) w1.heap.size [pp rb, pp b, pp tb, .int .i64 0] 27 ∧ X w1.heap.size ∧ (∀ j, j < w.heap.size → X j) ∧ Below w.heap.size w (w1.alloc (.cells #[pp rb, pp b, pp tb, .int .i64 0] 27))) := by
    refine ⟨by rw [hX]; exact hp1.grow (Go.Joins.below_alloc1 _ _), Blk.made w1 [pp rb, pp b, pp tb, .int .i64 0] 27, by rw [hX]; exact Or.inr ⟨Nat.le_refl _, by rw [World.size_alloc]; omega⟩, fun j hj => by rw [hX]; exact Or.inl hj, below_then hb1 (Go.Joins.below_alloc1 _ _)⟩
  clear hp1 hb1 hX PC
  go_upto_region 4 with fail
  generalize (w1.alloc (.cells #[pp rb, pp b, pp tb, .int .i64 0] 27)) = w2 at F2 ⊢
  generalize w1.heap.size = B at F2 ⊢
  have XB : Hid (X B ∧ (∀ j, j < w.heap.size → X j)) := ⟨F2.out.2.2.1, F2.out.2.2.2.1⟩
  have L2 : Hid (Below w.heap.size w w2) := F2.out.2.2.2.2
  have BB : Hid (Blk w2 B [pp rb, pp b, pp tb, .int .i64 0] 27) := F2.out.2.1
  have P0 : Hid (Pu X w2 (pm0 rb b tb 20) (ps0 (from1 20) 20)) := F2.out.1
  have N0 : Hid (Nums (pm0 rb b tb 20) (ps0 (from1 20) 20) 0 20 0 19) := nums0 (pm0 rb b tb 20) 20 20 (by omega) (by omega)
  clear F2
  have HAB : Hid (0 ≤ a0 ∧ a0 < 67108864 ∧ 0 ≤ a1 ∧ a1 ≤ 511) := ⟨by omega, by omega, by omega, by omega⟩
  clear k0 k1 k2 k3 k4 k5 k6 d0 d1 d2 d3 d4 d5 d6 v0
  have KC : Hid (Calls Tryd.prog 11 #[.agg #[pp rb, pp b, pp tb, .int .i64 0]] w2 fun e w' => ∃ (L : List Nat) (kf : Nat), e = .returned (.tuple #[.int .i64 kf, .int .i64 0]) ∧ (L.length = 2 ∧ InL (ps0 (from1 20) 20) L ∧ kf ∈ L) ∧ Wrote X w2 (pm0 rb b tb 20) (ps0 (from1 20) 20) 0 L w') := by
    refine (kernel_ok P0.out (by show (1 : Int) ≤ 20; omega) 0 (N0.out.box (by omega)) (by show 0 < _; omega) (by rw [N0.out.room]; show 1 + ((20 : Int) + 262143) / 262144 ≤ 20; omega)).mono ?_
    rintro e w' ⟨L, kf, he, ⟨h1, h2⟩, hw⟩
    have h1' : (L.length : Int) = 1 + ((20 : Int) + 262143) / 262144 := h1
    exact ⟨L, kf, he, ⟨by omega, h2⟩, hw⟩
  have BX := BB.out
  have c0 : w2.cell? ⟨B, 0, none⟩ = some (pp rb) := BX.cell 0
  have c1 : w2.cell? ⟨B, 1, none⟩ = some (pp b) := BX.cell 1
  have c2 : w2.cell? ⟨B, 2, none⟩ = some (pp tb) := BX.cell 2
  have c3 : w2.cell? ⟨B, 3, none⟩ = some (.int .i64 0) := BX.cell 3
  have lB := BX.lt
  clear BX
  go_wp2_with fail
  refine Calls.mono KC.out ?_
  rintro e w3 ⟨L, kf, rfl, ⟨hl, IN, hkf⟩, M3, hp3, hk3, ho3⟩
  have B3 : Hid (Blk w3 B [pp rb, pp b, pp tb, .int .i64 0] 27) := BB.out.kx hk3 XB.out.1
  have K3 : Hid (Kx X w2 w3 ∧ kf < 1048576) := ⟨hk3, by have := P0.out.so.frb kf (IN.2 kf hkf); omega⟩
  have N3 : Hid (Nums (pm0 rb b tb 20) _ 0 (20 - L.length) (0 + L.length) (19 - L.length)) := N0.out.take P0.out.so IN M3 (0 + 5000)
  obtain ⟨s3, hs3⟩ : ∃ s3 : Ps, s3 = { takeS (ps0 (from1 20) 20) 0 L with M := M3, q := 0 + 5000 } := ⟨_, rfl⟩
  have P3 : Hid (Pu X w3 (pm0 rb b tb 20) s3 ∧ s3.q = 5000) := by rw [hs3]; exact ⟨hp3, rfl⟩
  have N3' : Hid (Nums (pm0 rb b tb 20) s3 0 18 2 17) := by have q := N3.out; rw [← hs3, hl] at q; exact q
  clear hs3 hl IN hkf hp3 hk3 ho3 BB N0 P0 N3
  have BB := B3
  clear B3
  clear c0 c1 c2 c3 lB KC
  have RC : Hid (Calls Tryd.prog 13 #[.agg #[pp rb, pp b, pp tb, .int .i64 0], .int .i64 kf] w3 fun e w' => ∃ root : Nat, e = .returned (.tuple #[.int .i64 root, .int .i64 0]) ∧ Rooted X w3 (pm0 rb b tb 20) s3 0 root w') := root_ok P3.out.1 0 (N3'.out.box (by omega)) (by rw [P3.out.2]; omega) (by rw [N3'.out.room]; omega) kf K3.out.2
  have BX := BB.out
  have c0 : w3.cell? ⟨B, 0, none⟩ = some (pp rb) := BX.cell 0
  have c1 : w3.cell? ⟨B, 1, none⟩ = some (pp b) := BX.cell 1
  have c2 : w3.cell? ⟨B, 2, none⟩ = some (pp tb) := BX.cell 2
  have c3 : w3.cell? ⟨B, 3, none⟩ = some (.int .i64 0) := BX.cell 3
  have lB := BX.lt
  clear BX
  go_wp2_with fail
  refine Calls.mono RC.out ?_
  rintro e w4 ⟨root, rfl, M4, hF, hp4, hk4, hz4, _⟩
  have B4 : Hid (Blk w4 B [pp rb, pp b, pp tb, .int .i64 0] 27) := BB.out.kx hk4 XB.out.1
  have K4 : Hid (Kx X w2 w4) := K3.out.1.trans hk4
  have IN4 : InL s3 [root] := ⟨by simp, fun p hp => by simp at hp; subst hp; exact hF⟩
  have N4' : Nums (pm0 rb b tb 20) _ 0 (18 - ([root] : List Nat).length) (2 + ([root] : List Nat).length) (17 - ([root] : List Nat).length) := N3'.out.take P3.out.1.so IN4 M4 (s3.q + 2)
  have R4' : Rt (pm0 rb b tb 20) _ root (tab1 root) (fun _ => none) := rt_root (k := 0) (q := s3.q + 2) P3.out.1.so hF hz4
  obtain ⟨s4, hs4⟩ : ∃ s4 : Ps, s4 = { takeS s3 0 [root] with M := M4, q := s3.q + 2 } := ⟨_, rfl⟩
  rw [← hs4] at N4' R4' hp4
  have N4 : Hid (Nums (pm0 rb b tb 20) s4 0 17 3 16) := N4'
  have R4 : Hid (Rt (pm0 rb b tb 20) s4 root (tab1 root) (fun _ => none)) := R4'
  have P4 : Hid (Pu X w4 (pm0 rb b tb 20) s4 ∧ s4.q ≤ 6000) := ⟨hp4, by rw [hs4]; show s3.q + 2 ≤ 6000; have := P3.out.2; omega⟩
  clear hF hp4 hk4 hz4 IN4 N4' R4' BB K3 P3 N3' hs4
  have BB := B4
  clear B4
  clear c0 c1 c2 c3 lB RC
  have UC : Hid (Calls Tryd.prog 17 #[.agg #[pp rb, pp b, pp tb, .int .i64 0]] w4 fun e w' => e = .returned (.int .i64 3) ∧ Below w4.heap.size w4 w') := by
    have q := used_c P4.out.1 0
    rw [N4.out.get] at q
    exact q
  have BX := BB.out
  have c0 : w4.cell? ⟨B, 0, none⟩ = some (pp rb) := BX.cell 0
  have c1 : w4.cell? ⟨B, 1, none⟩ = some (pp b) := BX.cell 1
  have c2 : w4.cell? ⟨B, 2, none⟩ = some (pp tb) := BX.cell 2
  have c3 : w4.cell? ⟨B, 3, none⟩ = some (.int .i64 0) := BX.cell 3
  have lB := BX.lt
  clear BX
  go_wp2_with fail
  refine Calls.mono UC.out ?_
  rintro e w5 ⟨rfl, hb5⟩
  have I0 : Hid (Near X (pm0 rb b tb 20) root base 0 w5 ∧ Kx X w2 w5 ∧ Blk w5 B [pp rb, pp b, pp tb, .int .i64 0] 27) := ⟨⟨s4, _, _, by have := P4.out.2; omega, P4.out.1.below hb5, R4.out, fun p => by rw [if_neg (by omega)], Or.inl ⟨rfl, rfl, N4.out⟩⟩, K4.out.trans (Kx.of_below P4.out.1 hb5), BB.out.below hb5⟩
  clear hb5 UC P4 R4 N4 K4 BB c0 c1 c2 c3 lB
  go_upto_region 12 with fail
  go_loopw [14] (fun vi W => ∃ i : Nat, i ≤ n ∧ vi = .int .i64 i ∧ Hid (Near X (pm0 rb b tb 20) root base i W ∧ Kx X w2 W ∧ Blk W B [pp rb, pp b, pp tb, .int .i64 0] 27)) (fun vi _ => n - (Go.RowKit.intOf vi).toNat)
  case atStart => exact ⟨0, by omega, rfl, I0⟩
  case round =>
    clear I0
    obtain ⟨i, hi, rfl, HP⟩ := hrel
    by_cases ci : i < n
    rotate_left
    · obtain rfl : i = n := by omega
      have PGC : Hid _ := near_pages HP.out.1 HN.out.1 (by have := HN.out.2.1; omega)
      have LW : Hid (Below w.heap.size w wr) := L2.out.trans ⟨HP.out.2.1.os, HP.out.2.1.tape, HP.out.2.1.output, HP.out.2.1.size, fun j hj => HP.out.2.1.block j (XB.out.2 j hj)⟩
      have BB : Hid (Blk wr B [pp rb, pp b, pp tb, .int .i64 0] 27) := HP.out.2.2
      have z0 : decide ((i : Int) < (i : Int)) = false := by simp
      have BX := BB.out
      have c0 : wr.cell? ⟨B, 0, none⟩ = some (pp rb) := BX.cell 0
      have c1 : wr.cell? ⟨B, 1, none⟩ = some (pp b) := BX.cell 1
      have c2 : wr.cell? ⟨B, 2, none⟩ = some (pp tb) := BX.cell 2
      have c3 : wr.cell? ⟨B, 3, none⟩ = some (.int .i64 0) := BX.cell 3
      have lB := BX.lt
      clear BX
      clear HP
      go_wp2_with fail
      refine Calls.mono PGC.out ?_
      rintro e w6 ⟨g, cf, rfl, lg, g0, g1, hb6⟩
      have L6 : Hid (Below w.heap.size w w6) := below_then LW.out hb6
      have T6 : Hid (Tab w6) := HT.out.below L6.out WP.out
      clear hb6 PGC LW BB c0 c1 c2 c3 lB
      go_wp2_with fail
      refine Calls.mono (AW.out w6 T6.out) ?_
      rintro e w7 ⟨rfl, hb7⟩
      have L7 : Hid (Below w.heap.size w w7) := below_then L6.out hb7
      have h0 : w7.cell? ⟨g, 0, none⟩ = some (.int .i64 (base : Nat)) := below_cell hb7 lg g0
      have h1 : w7.cell? ⟨g, i - 1, none⟩ = some (.int .i64 ((base + i - 1 : Nat) : Int)) := below_cell hb7 lg g1
      have l7 : g < w7.heap.size := Nat.lt_of_lt_of_le lg hb7.size
      obtain ⟨j, hj⟩ : ∃ j : Nat, i - 1 = j := ⟨_, rfl⟩
      obtain ⟨y, hy⟩ : ∃ y : Int, ((base + i - 1 : Nat) : Int) = y := ⟨_, rfl⟩
      rw [hj, hy] at h1
      obtain ⟨x, hx⟩ : ∃ x : Int, ((base : Nat) : Int) = x := ⟨_, rfl⟩
      rw [hx] at h0
      have n1 := HN.out.1
      obtain ⟨m0, m1, m2, m3⟩ := HAB.out
      have n2 := HN.out.2.1
      have n3 := HN.out.2.2.2
      have q1 : IntKind.i64.wrap (a0 * 512) = a0 * 512 := by simp only [IntKind.wrap_i64]; omega
      have q2 : IntKind.i64.wrap (a0 * 512 + a1) = x := by simp only [IntKind.wrap_i64]; omega
      have q3 : IntKind.i64.wrap (x + (i : Int)) = x + (i : Int) := by simp only [IntKind.wrap_i64]; omega
      have q4 : IntKind.i64.wrap (x + (i : Int) - 1) = y := by simp only [IntKind.wrap_i64]; omega
      have q5 : IntKind.i64.wrap ((i : Int) - 1) = (j : Int) := by simp only [IntKind.wrap_i64]; omega
      have r1 : decide ((j : Int) < 0) = false := by simp
      have r2 : decide ((j : Int) < (i : Int)) = true := by simp; omega
      have r3 : decide ((0 : Int) < (i : Int)) = true := by simp; omega
      have r4 : j < i := by omega
      have r5 : 0 < i := by omega
      clear hj hy hx lg g0 g1 hb7 T6 L6 hbase n1 n2 n3 hi m0 m1 m2 m3
      go_wp2_with fail
      go_ret
      exact ⟨by simp, L7.out⟩
    have z0 : decide ((i : Int) < (n : Int)) = true := by simp; omega
    obtain ⟨x, hx⟩ : ∃ x : Int, x = a0 * 512 + a1 := ⟨_, rfl⟩
    obtain ⟨pg, hpg⟩ : ∃ pg : Int, pg = ((base + i : Nat) : Int) := ⟨_, rfl⟩
    have n2 := HN.out.2.1
    have n3 := HN.out.2.2.2
    obtain ⟨m0, m1, m2, m3⟩ := HAB.out
    have q1 : IntKind.i64.wrap (a0 * 512) = a0 * 512 := by simp only [IntKind.wrap_i64]; omega
    have q2 : IntKind.i64.wrap (a0 * 512 + a1) = x := by simp only [IntKind.wrap_i64]; omega
    have q3 : IntKind.i64.wrap (x + (i : Int)) = pg := by simp only [IntKind.wrap_i64]; omega
    have MC : Hid (∀ W : World, Near X (pm0 rb b tb 20) root base i W → Calls Tryd.prog 26 #[.agg #[pp rb, pp b, pp tb, .int .i64 0], .int .i64 root, .int .i64 pg, .int .i64 (i : Nat), .agg #[.bool false, .bool true, .bool false]] W fun e w' => e = .returned (.int .i64 0) ∧ Near X (pm0 rb b tb 20) root base (i + 1) w' ∧ Kx X W w') := fun W h => by
      rw [hpg]
      exact near_map h (by omega) (by have := HN.out.2.2.1; omega) (by omega)
    clear hx hpg n2 n3 m0 m1 m2 m3
    have BB : Hid (Blk wr B [pp rb, pp b, pp tb, .int .i64 0] 27) := HP.out.2.2
    have BX := BB.out
    have c0 : wr.cell? ⟨B, 0, none⟩ = some (pp rb) := BX.cell 0
    have c1 : wr.cell? ⟨B, 1, none⟩ = some (pp b) := BX.cell 1
    have c2 : wr.cell? ⟨B, 2, none⟩ = some (pp tb) := BX.cell 2
    have c3 : wr.cell? ⟨B, 3, none⟩ = some (.int .i64 0) := BX.cell 3
    have lB := BX.lt
    clear BX
    go_wp2_with fail
    refine Calls.mono (MC.out wr HP.out.1) ?_
    rintro e u2 ⟨rfl, hW, hk⟩
    have G2 : Hid (Near X (pm0 rb b tb 20) root base (i + 1) u2 ∧ Kx X w2 u2) := ⟨hW, HP.out.2.1.trans hk⟩
    have B2 : Hid (Blk u2 B [pp rb, pp b, pp tb, .int .i64 0] 27) := BB.out.kx hk XB.out.1
    have UC : Hid _ := near_used G2.out.1
    clear hW hk HP BB c0 c1 c2 c3 lB MC q1 q2 q3
    have BB := B2
    clear B2
    have BX := BB.out
    have c0 : u2.cell? ⟨B, 0, none⟩ = some (pp rb) := BX.cell 0
    have c1 : u2.cell? ⟨B, 1, none⟩ = some (pp b) := BX.cell 1
    have c2 : u2.cell? ⟨B, 2, none⟩ = some (pp tb) := BX.cell 2
    have c3 : u2.cell? ⟨B, 3, none⟩ = some (.int .i64 0) := BX.cell 3
    have lB := BX.lt
    clear BX
    go_wp2_with fail
    refine Calls.mono UC.out ?_
    rintro e u3 ⟨rfl, hb3⟩
    have G3 : Hid (Near X (pm0 rb b tb 20) root base (i + 1) u3 ∧ Kx X w2 u3 ∧ Blk u3 B [pp rb, pp b, pp tb, .int .i64 0] 27) := ⟨near_below G2.out.1 hb3, G2.out.2.trans (kx_near G2.out.1 hb3), BB.out.below hb3⟩
    clear hb3 G2 BB c0 c1 c2 c3 lB UC
    have n2 := HN.out.2.1
    have q9 : IntKind.i64.wrap ((i : Int) + 1) = ((i + 1 : Nat) : Int) := by simp only [IntKind.wrap_i64]; omega
    go_wp2_with fail
    go_roundw
    case rel => exact ⟨i + 1, by omega, by go_num, G3⟩
    case measure => simp [Go.RowKit.intOf]; omega

set_option maxRecDepth 100000 in
theorem lifted (os : Os) (started : os.Started) (H : Type) (enc : TypeId × Value → H) :
    ReturnsInHanded {} Tryd.checked os 8 .any (fun w args => (Rows.tableNearSpec.pre enc Tryd.prog Tryd.f8 [] false w args ∧ laidMetH Tryd.prog laidL w) ∧ sizedMet enc Tryd.prog Tryd.f8 (OpenSpec.ofChange Rows.tableNearSpec) false w args)
      (Rows.tableNearSpec.post enc Tryd.prog Tryd.f8 false true false false) := by
  refine returnsInHanded_of_change_and (C := Tryd.checked) (X := fun w _ => laidMetH Tryd.prog laidL w) (fun _ _ _ hh h => h.of_heap hh) own started (by kernel_rfl) Tryd.func8
    (ChangeSpec.witness_shaped (enc := enc) (C := Tryd.checked) (os := os) (X := fun w _ => laidMetH Tryd.prog laidL w) false (World.doorLaid Tryd.prog 400 os) #[.int .i64 0, .int .i64 0, .int .i64 0] 8 rfl (World.shaped_of_RefB (by kernel_rfl) (by kernel_rfl)) (by kernel_rfl) (by kernel_rfl) (by kernel_rfl) (door_met os _)) ?_
  intro W base args ds gs before hval0 hW _ _ hL _
  have hval : ∀ (j : Nat) t v, Tryd.f8.params[j]? = some t → args[j]? = some v → Value.okWide Tryd.prog W .any base t v := hval0
  have hW' := hW
  obtain ⟨p, q, hA0, hV, hbef, hfz, hnd⟩ := hW
  have hA : DataW.TrodAll enc Tryd.prog W 0 (fun _ => true) true Tryd.f8.params.toList args.toList ds p := hA0
  have hAk := hA
  have hlt : ∀ x ∈ p, x.block < W.heap.size := fun x hx => hW'.lt x (by rw [hbef]; exact List.mem_append_left _ hx)
  rw [Tryd.params8] at hA hval
  obtain ⟨v0, vs0, d0, ds0, p0, q0, hargs, rfl, hp0, h0, r0⟩ := trodAll_cons hA
  obtain ⟨v1, vs1, d1, ds1, p1, q1, rfl, rfl, hp1, h1, r1⟩ := trodAll_cons r0
  obtain ⟨v2, vs2, d2, ds2, p2, q2, rfl, rfl, hp2, h2, r2⟩ := trodAll_cons r1
  obtain ⟨rfl, rfl, hpz⟩ := trodAll_nil r2
  obtain rfl : args = #[v0, v1, v2] := by cases args; simp_all
  obtain ⟨rfl, rfl⟩ := trodVars_none hV
  obtain ⟨a0, rfl, _, _, w0⟩ := open_int Tryd.underlying3 (hval 0 3 v0 rfl rfl) h0
  obtain ⟨a1, rfl, _, _, w1⟩ := open_int Tryd.underlying3 (hval 1 3 v1 rfl rfl) h1
  obtain ⟨a2, rfl, _, _, w2⟩ := open_int Tryd.underlying3 (hval 2 3 v2 rfl rfl) h2
  clear hA0 hval0
  refine (walk a0 w0 a1 w1 a2 w2 W (of_laid hL) ).mono fun e W' ⟨he, hg⟩ => ?_
  subst he
  exact ⟨_, rfl, ⟨_, _, _, [], p, [], hW', (trodAll_cons_mk (shut_bool Tryd.underlying4 _) trodAll_mk0), args_stay laidOut hg (by kernel_rfl) hAk hlt, rfl, hg.frame _, fun h => by cases h⟩⟩

theorem over : Rows.tableNearRow.holds Tryd.pinned (OpenSpec.ofChange Rows.tableNearSpec) :=
  OpenClaim.holds_of_wide 8 Tryd.f8 rfl rfl rfl rfl rfl rfl rfl ⟨rfl, rfl, rfl, rfl, rfl⟩ rfl rfl rfl rfl rfl (by kernel_rfl) Tryd.func8 (by kernel_rfl)
    (of_decide_eq_true (by kernel_rfl)) (by unfold Func.isWrapper; first | (rw [if_pos (by decide +kernel)]; kernel_rfl) | (rw [if_neg (by decide +kernel)]; exact ⟨rfl, rfl⟩))
    (fun os started H enc _ => lifted os started H enc)

theorem proved : Rows.TableNearCardSaid :=
  Claim7.holds_tied_plain_at .later [] [.data] true (true, "64c8694732dce4494ae4c7601e39c35f2573908f76922d47bdd02e269d73e0bb") true
    over (fun _ h => by cases h) (by kernel_rfl) (fun _ h => by cases h) tableNear_row_tie rfl ⟨rfl, rfl⟩ (by kernel_rfl) rfl
    (fun f fn hf hfn => by
      obtain rfl : f = 8 := Option.some.inj ((show Tryd.prog.funcNamed "demesne/demesnelaw09.TableNear" = some 8 by kernel_rfl).symm.trans hf) |>.symm
      obtain rfl : fn = Tryd.f8 := (Option.some.inj (Tryd.func8.symm.trans hfn)).symm
      exact ⟨by kernel_rfl, fun j t ht => by
        rw [Tryd.params8] at ht
        have hm : t ∈ [3, 3, 3] := by simpa using Array.mem_of_getElem? ht
        have hall : ([3, 3, 3].all fun u => !Tryd.prog.wantsStandIn u) = true := by kernel_rfl
        exact (show Tryd.prog.wantsStandIn t = false by simpa using List.all_eq_true.1 hall t hm)⟩)
    (by kernel_rfl)
#print axioms proved
end Go.Proofs.YtkiclbnbnjbcaaaDoor.tableNear
