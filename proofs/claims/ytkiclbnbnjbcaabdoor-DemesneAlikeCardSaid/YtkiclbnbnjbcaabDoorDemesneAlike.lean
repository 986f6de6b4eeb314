/- DemesneAlike: tables that follow a list of regions page by page say of each page what the list says; of pages below 40, behind any 30 changes. No condition. -/
import Derived.Test.YtkiclbnbnjbcaabDoorRows
import Derived.Test.YtkiclbnbnjbcaabDoorCards
import Derived.Test.YtkiclbnbnjbcaabDoorTie
import Derived.ProofKit
import Derived.OpenShut
import Derived.Stop.Joined
import Derived.SevenTiedAt
import Derived.Test.YtkiclbnbnjbcaabDoorMK
namespace Go.Proofs.YtkiclbnbnjbcaabDoor.demesneAlike
open Go.ChangeShapes Go.WideShapes Go.ChangeAt Go.RowKit
set_option linter.unusedSimpArgs false
set_option linter.unusedVariables false
open Go.Proofs.YtkiclbnbnjbcaabDoor.Tt
set_option maxRecDepth 8000
theorem nePermS (a b c : Bool) (W : World) : (binOp .neq 38 (.agg #[.bool a, .bool b, .bool c]) (.agg #[.bool a, .bool b, .bool c])).run Tryd.prog W = .ok (.bool false) W := by
  cases a <;> cases b <;> cases c <;> kernel_rfl

set_option maxHeartbeats 16000000 in
theorem walk (p0 : Option Addr) (n0 c0 : Nat) (A0 : Nat → Re.Ac) (m0 : n0 ≤ maxLen) (w : World) (ht : Tab w) (H0 : Re.IsActs w p0 n0 A0) :
    Calls Tryd.prog 3 #[.slice p0 n0 c0] w fun e w' => e = .returned (.bool true) ∧ Below w.heap.size w w' := by
  have WP : Hid (0 < w.heap.size) := ht.1
  have HA : Hid (Re.IsActs w p0 n0 A0) := H0
  have PC : Hid _ := purse_ok w ht 60 60 (by omega) (by omega) (by omega) (by omega)
  clear ht H0
  go_enter Tryd.func3, Tryd.ntmps3
  go_wp2_with fail
  refine Calls.mono PC.out ?_
  rintro e w1 ⟨rb, b, tb, rfl, hp1, hb1⟩
  obtain ⟨X, hX⟩ : ∃ X : Nat → Prop, X = XW (fun j => j < w.heap.size) w1 (w1.alloc (.cells #[pp rb, pp b, pp tb, .int .i64 0] 27)) := ⟨_, rfl⟩
  have F2 : Hid (Pu X (w1.alloc (.cells #[pp rb, pp b, pp tb, .int .i64 0] 27)) (pm0 rb b tb 60) (ps0 (from1 60) 60) ∧ Blk (w1.alloc (.cells #[pp rb, pp b, pp tb, .int .i64 0] 27)) w1.heap.size [pp rb, pp b, pp tb, .int .i64 0] 27 ∧ X w1.heap.size ∧ (∀ j, j < w.heap.size → X j) ∧ Below w.heap.size w (w1.alloc (.cells #[pp rb, pp b, pp tb, .int .i64 0] 27))) := by
    refine ⟨by rw [hX]; exact hp1.grow (Go.Joins.below_alloc1 _ _), Blk.made w1 [pp rb, pp b, pp tb, .int .i64 0] 27, by rw [hX]; exact Or.inr ⟨Nat.le_refl _, by rw [World.size_alloc]; omega⟩, fun j hj => by rw [hX]; exact Or.inl hj, below_then hb1 (Go.Joins.below_alloc1 _ _)⟩
  clear hp1 hb1 hX PC
  go_upto_region 2 with fail
  generalize (w1.alloc (.cells #[pp rb, pp b, pp tb, .int .i64 0] 27)) = w2 at F2 ⊢
  generalize w1.heap.size = B at F2 ⊢
  have XB : Hid (X B ∧ (∀ j, j < w.heap.size → X j)) := ⟨F2.out.2.2.1, F2.out.2.2.2.1⟩
  have L2 : Hid (Below w.heap.size w w2) := F2.out.2.2.2.2
  have BB : Hid (Blk w2 B [pp rb, pp b, pp tb, .int .i64 0] 27) := F2.out.2.1
  have P0 : Hid (Pu X w2 (pm0 rb b tb 60) (ps0 (from1 60) 60)) := F2.out.1
  have N0 : Hid (Nums (pm0 rb b tb 60) (ps0 (from1 60) 60) 0 60 0 59) := nums0 (pm0 rb b tb 60) 60 60 (by omega) (by omega)
  clear F2
  have BB2 : Hid (Blk w2 B [pp rb, pp b, pp tb, .int .i64 0] 27) := BB.out
  have KC : Hid (Calls Tryd.prog 5 #[.agg #[pp rb, pp b, pp tb, .int .i64 0]] w2 fun e w' => ∃ (L : List Nat) (kf : Nat), e = .returned (.tuple #[.int .i64 kf, .int .i64 0]) ∧ (L.length = 2 ∧ InL (ps0 (from1 60) 60) L ∧ kf ∈ L) ∧ Wrote X w2 (pm0 rb b tb 60) (ps0 (from1 60) 60) 0 L w') := by
    refine (kernel_ok P0.out (by show (1 : Int) ≤ 60; omega) 0 (N0.out.box (by omega)) (by show 0 < _; omega) (by rw [N0.out.room]; show 1 + ((60 : Int) + 262143) / 262144 ≤ 60; omega)).mono ?_
    rintro e w' ⟨L, kf, he, ⟨h1, h2⟩, hw⟩
    have h1' : (L.length : Int) = 1 + ((60 : Int) + 262143) / 262144 := h1
    exact ⟨L, kf, he, ⟨by omega, h2⟩, hw⟩
  have BX := BB.out
  have x0 : w2.cell? ⟨B, 0, none⟩ = some (pp rb) := BX.cell 0
  have x1 : w2.cell? ⟨B, 1, none⟩ = some (pp b) := BX.cell 1
  have x2 : w2.cell? ⟨B, 2, none⟩ = some (pp tb) := BX.cell 2
  have x3 : w2.cell? ⟨B, 3, none⟩ = some (.int .i64 0) := BX.cell 3
  have lB := BX.lt
  clear BX
  go_wp2_with fail
  refine Calls.mono KC.out ?_
  rintro e w3 ⟨L, kf, rfl, ⟨hl, IN, hkf⟩, M3, hp3, hk3, ho3⟩
  have B3 : Hid (Blk w3 B [pp rb, pp b, pp tb, .int .i64 0] 27) := BB.out.kx hk3 XB.out.1
  have K3 : Hid (Kx X w2 w3 ∧ kf < 1048576) := ⟨hk3, by have := P0.out.so.frb kf (IN.2 kf hkf); omega⟩
  have N3 : Hid (Nums (pm0 rb b tb 60) _ 0 (60 - L.length) (0 + L.length) (59 - L.length)) := N0.out.take P0.out.so IN M3 (0 + 5000)
  obtain ⟨s3, hs3⟩ : ∃ s3 : Ps, s3 = { takeS (ps0 (from1 60) 60) 0 L with M := M3, q := 0 + 5000 } := ⟨_, rfl⟩
  have P3 : Hid (Pu X w3 (pm0 rb b tb 60) s3 ∧ s3.q = 5000) := by rw [hs3]; exact ⟨hp3, rfl⟩
  have N3' : Hid (Nums (pm0 rb b tb 60) s3 0 58 2 57) := by have q := N3.out; rw [← hs3, hl] at q; exact q
  clear hs3 hl IN hkf hp3 hk3 ho3 BB N0 P0 N3
  have BB := B3
  clear B3
  clear x0 x1 x2 x3 lB KC
  have RC : Hid (Calls Tryd.prog 6 #[.agg #[pp rb, pp b, pp tb, .int .i64 0], .int .i64 kf] w3 fun e w' => ∃ root : Nat, e = .returned (.tuple #[.int .i64 root, .int .i64 0]) ∧ Rooted X w3 (pm0 rb b tb 60) s3 0 root w') := root_ok P3.out.1 0 (N3'.out.box (by omega)) (by rw [P3.out.2]; omega) (by rw [N3'.out.room]; omega) kf K3.out.2
  have BX := BB.out
  have x0 : w3.cell? ⟨B, 0, none⟩ = some (pp rb) := BX.cell 0
  have x1 : w3.cell? ⟨B, 1, none⟩ = some (pp b) := BX.cell 1
  have x2 : w3.cell? ⟨B, 2, none⟩ = some (pp tb) := BX.cell 2
  have x3 : w3.cell? ⟨B, 3, none⟩ = some (.int .i64 0) := BX.cell 3
  have lB := BX.lt
  clear BX
  go_wp2_with fail
  refine Calls.mono RC.out ?_
  rintro e w4 ⟨root, rfl, M4, hF, hp4, hk4, hz4, _⟩
  have B4 : Hid (Blk w4 B [pp rb, pp b, pp tb, .int .i64 0] 27) := BB.out.kx hk4 XB.out.1
  have K4 : Hid (Kx X w2 w4) := K3.out.1.trans hk4
  have IN4 : InL s3 [root] := ⟨by simp, fun p hp => by simp at hp; subst hp; exact hF⟩
  have N4' : Nums (pm0 rb b tb 60) _ 0 (58 - ([root] : List Nat).length) (2 + ([root] : List Nat).length) (57 - ([root] : List Nat).length) := N3'.out.take P3.out.1.so IN4 M4 (s3.q + 2)
  have R4' : Rt (pm0 rb b tb 60) _ root (tab1 root) (fun _ => none) := rt_root (k := 0) (q := s3.q + 2) P3.out.1.so hF hz4
  obtain ⟨s4, hs4⟩ : ∃ s4 : Ps, s4 = { takeS s3 0 [root] with M := M4, q := s3.q + 2 } := ⟨_, rfl⟩
  rw [← hs4] at N4' R4' hp4
  have N4 : Hid (Nums (pm0 rb b tb 60) s4 0 57 3 56) := N4'
  have R4 : Hid (Rt (pm0 rb b tb 60) s4 root (tab1 root) (fun _ => none)) := R4'
  have P4 : Hid (Pu X w4 (pm0 rb b tb 60) s4 ∧ s4.q ≤ 6000) := ⟨hp4, by rw [hs4]; show s3.q + 2 ≤ 6000; have := P3.out.2; omega⟩
  clear hF hp4 hk4 hz4 IN4 N4' R4' BB K3 P3 N3' hs4
  have BB := B4
  clear B4
  clear x0 x1 x2 x3 lB RC
  have UC : Hid (Calls Tryd.prog 7 #[.agg #[pp rb, pp b, pp tb, .int .i64 0]] w4 fun e w' => e = .returned (.int .i64 3) ∧ Below w4.heap.size w4 w') := by
    have q := used_c P4.out.1 0
    rw [N4.out.get] at q
    exact q
  have BX := BB.out
  have x0 : w4.cell? ⟨B, 0, none⟩ = some (pp rb) := BX.cell 0
  have x1 : w4.cell? ⟨B, 1, none⟩ = some (pp b) := BX.cell 1
  have x2 : w4.cell? ⟨B, 2, none⟩ = some (pp tb) := BX.cell 2
  have x3 : w4.cell? ⟨B, 3, none⟩ = some (.int .i64 0) := BX.cell 3
  have lB := BX.lt
  clear BX
  go_wp2_with fail
  refine Calls.mono UC.out ?_
  rintro e w5 ⟨rfl, hb5⟩
  have I0 : Hid (AlO (pm0 rb b tb 60) root X w2 0 (.slice none 0 0) w5) := by
    have S4 : St X (pm0 rb b tb 60) root 0 58 2 57 s4 (tab1 root) (fun _ => none) w4 := ⟨P4.out.1, R4.out, by rw [pgs_none]; exact N4.out, by rw [pgs_none]; decide⟩
    have A4 : AlS (pm0 rb b tb 60) root X w2 0 X s4 (tab1 root) (fun _ => none) [] none 0 w4 := ⟨Nat.le_refl _, fun i hi => absurd hi (Nat.not_lt_zero _), fun g ne _ => absurd rfl ne, ⟨trivial, by show (0 : Int) ≤ 40; omega, Nat.zero_le _⟩, fun x => rfl, S4, by have := P4.out.2; omega, fun j hj => hj, K4.out⟩
    exact ⟨X, s4, _, _, [], none, 0, rfl, A4.below hb5⟩
  clear hb5 UC P4 R4 N4 K4 BB x0 x1 x2 x3 lB
  go_upto_block 0 with fail
  go_cut [9, 10, 11, 12, 13, 14, 15, 16, 81, 94, 102, 125, 135, 141] (fun vl _ _ _ _ _ _ _ _ _ _ _ _ _ wx => Hid (AlO (pm0 rb b tb 60) root X w2 30 vl wx))
  case first =>
    go_wp2_with fail
    go_loopw [9, 10, 11, 12, 13, 14, 15, 16, 81, 94, 102, 125, 135, 141] (fun vl vi _ _ _ _ _ _ _ _ _ _ _ _ W => ∃ i : Nat, i ≤ n0 ∧ i ≤ 30 ∧ vi = .int .i64 i ∧ Hid (AlO (pm0 rb b tb 60) root X w2 i vl W)) (fun _ vi _ _ _ _ _ _ _ _ _ _ _ _ _ => 30 - (Go.RowKit.intOf vi).toNat)
    case atStart => exact ⟨0, by omega, by omega, rfl, I0⟩
    case round =>
      clear I0
      obtain ⟨i, hi, hi30, rfl, HP⟩ := hrel
      by_cases hlt : i < n0 ∧ i < 30
      rotate_left
      · have HE : Hid (AlO (pm0 rb b tb 60) root X w2 30 u9 wr) := HP.out.more hi30
        have hd : (decide ((i : Int) < (n0 : Int)) = false ∧ ¬ i < n0) ∨ (decide ((i : Int) < (n0 : Int)) = true ∧ decide ((i : Int) < 30) = false ∧ i < n0 ∧ ¬ i < 30) := by
          by_cases c : i < n0
          · right; simp; omega
          · left; simp; omega
        clear hlt HP
        rcases hd with ⟨hd, hn⟩ | ⟨hd, hd2, hn, hn2⟩
        · go_wp2_with fail
          go_meet
          exact HE
        · go_wp2_with fail
          go_meet
          exact HE
      obtain ⟨hlt, hlt2⟩ := hlt
      obtain ⟨wo, hwo⟩ : ∃ wo, wo = wr := ⟨_, rfl⟩
      subst hwo
      obtain ⟨Y, s, tab, lf, L, p, c, hv, hS⟩ := HP.out
      subst hv
      have AS : Hid (AlS (pm0 rb b tb 60) root X w2 i Y s tab lf L p c wo) := hS
      clear hS HP
      have LW : Hid (Below w.heap.size w wo) := by
        have q := AS.out.kx
        exact L2.out.trans ⟨q.os, q.tape, q.output, q.size, fun j hj => q.block j (XB.out.2 j hj)⟩
      have hd : decide ((i : Int) < (n0 : Int)) = true := by simp; omega
      have hd2 : decide ((i : Int) < 30) = true := by simp; omega
      have hd0 : decide ((i : Int) < 0) = false := by simp
      obtain ⟨bq, oq, rfl, lq, cq, g1, g2⟩ := HA.out i hlt
      generalize A0 i = st at cq g1 g2
      obtain ⟨hw, fi, ti, pa, pb, pc, kd⟩ := st
      simp only at g1 g2
      have y0 : wo.cell? ⟨bq, oq + i * 7, none⟩ = some (.int .i64 hw) := (LW.out.cell lq).trans (cq 0 _ rfl)
      have y1 : wo.cell? ⟨bq, oq + i * 7 + 1, none⟩ = some (.int .i64 fi) := (LW.out.cell lq).trans (cq 1 _ rfl)
      have y2 : wo.cell? ⟨bq, oq + i * 7 + 2, none⟩ = some (.int .i64 ti) := (LW.out.cell lq).trans (cq 2 _ rfl)
      have y3 : wo.cell? ⟨bq, oq + i * 7 + 3, none⟩ = some (.bool pa) := (LW.out.cell lq).trans (cq 3 _ rfl)
      have y4 : wo.cell? ⟨bq, oq + i * 7 + 4, none⟩ = some (.bool pb) := (LW.out.cell lq).trans (cq 4 _ rfl)
      have y5 : wo.cell? ⟨bq, oq + i * 7 + 5, none⟩ = some (.bool pc) := (LW.out.cell lq).trans (cq 5 _ rfl)
      have y6 : wo.cell? ⟨bq, oq + i * 7 + 6, none⟩ = some (.int .i64 kd) := (LW.out.cell lq).trans (cq 6 _ rfl)
      have lr : bq < wo.heap.size := Nat.lt_of_lt_of_le lq LW.out.size
      have FA : Hid (Below wo.heap.size wo (wo.alloc (.cells #[.int .i64 hw, .int .i64 fi, .int .i64 ti, .bool pa, .bool pb, .bool pc, .int .i64 kd] 40)) ∧ Blk (wo.alloc (.cells #[.int .i64 hw, .int .i64 fi, .int .i64 ti, .bool pa, .bool pb, .bool pc, .int .i64 kd] 40)) wo.heap.size [.int .i64 hw, .int .i64 fi, .int .i64 ti, .bool pa, .bool pb, .bool pc, .int .i64 kd] 40) := ⟨Go.Joins.below_alloc1 _ _, Blk.made wo [.int .i64 hw, .int .i64 fi, .int .i64 ti, .bool pa, .bool pb, .bool pc, .int .i64 kd] 40⟩
      go_upto_region 13 with fail
      obtain ⟨wA, hwA⟩ : ∃ wA, wo.alloc (.cells #[.int .i64 hw, .int .i64 fi, .int .i64 ti, .bool pa, .bool pb, .bool pc, .int .i64 kd] 40) = wA := ⟨_, rfl⟩
      obtain ⟨bA, hbA⟩ : ∃ bA, wo.heap.size = bA := ⟨_, rfl⟩
      have FB : Hid (Below wo.heap.size wo wA ∧ Blk wA bA [.int .i64 hw, .int .i64 fi, .int .i64 ti, .bool pa, .bool pb, .bool pc, .int .i64 kd] 40 ∧ wo.heap.size = bA) := by rw [← hwA, ← hbA]; exact ⟨FA.out.1, FA.out.2, rfl⟩
      rw [hwA, hbA]
      clear FA hwA hbA y0 y1 y2 y3 y4 y5 y6 lr hd hd2 hd0 lq cq
      have ZA := FB.out.2.1
      have z0 : wA.cell? ⟨bA, 0, none⟩ = some (.int .i64 hw) := ZA.cell 0
      have z1 : wA.cell? ⟨bA, 1, none⟩ = some (.int .i64 fi) := ZA.cell 1
      have z2 : wA.cell? ⟨bA, 2, none⟩ = some (.int .i64 ti) := ZA.cell 2
      have z3 : wA.cell? ⟨bA, 3, none⟩ = some (.bool pa) := ZA.cell 3
      have z4 : wA.cell? ⟨bA, 4, none⟩ = some (.bool pb) := ZA.cell 4
      have z5 : wA.cell? ⟨bA, 5, none⟩ = some (.bool pc) := ZA.cell 5
      have z6 : wA.cell? ⟨bA, 6, none⟩ = some (.int .i64 kd) := ZA.cell 6
      have lA := ZA.lt
      clear ZA
      by_cases kfi : fi < 0
      · have d1 : decide (fi < 0) = true := by simp [kfi]
        go_wp2_with fail
        go_roundw
        case rel => exact ⟨i + 1, by omega, by omega, by go_num, AS.out.stay FB.out.1⟩
        case measure => simp [Go.RowKit.intOf]; omega
      have d1 : decide (fi < 0) = false := by simp; omega
      by_cases kti : 40 < ti
      · have d2 : decide (40 < ti) = true := by simp [kti]
        go_wp2_with fail
        go_roundw
        case rel => exact ⟨i + 1, by omega, by omega, by go_num, AS.out.stay FB.out.1⟩
        case measure => simp [Go.RowKit.intOf]; omega
      have d2 : decide (40 < ti) = false := by simp; omega
      have FR : Hid (Below wA.heap.size wA (wA.alloc (.cells #[.int .i64 fi, .int .i64 ti] 42)) ∧ Blk (wA.alloc (.cells #[.int .i64 fi, .int .i64 ti] 42)) wA.heap.size [.int .i64 fi, .int .i64 ti] 42) := ⟨Go.Joins.below_alloc1 _ _, Blk.made wA [.int .i64 fi, .int .i64 ti] 42⟩
      go_upto_region 15 with fail
      obtain ⟨wR, hwR⟩ : ∃ wR, wA.alloc (.cells #[.int .i64 fi, .int .i64 ti] 42) = wR := ⟨_, rfl⟩
      obtain ⟨bR, hbR⟩ : ∃ bR, wA.heap.size = bR := ⟨_, rfl⟩
      have FC : Hid (Below wo.heap.size wo wR ∧ Blk wR bA [.int .i64 hw, .int .i64 fi, .int .i64 ti, .bool pa, .bool pb, .bool pc, .int .i64 kd] 40 ∧ Blk wR bR [.int .i64 fi, .int .i64 ti] 42 ∧ wo.heap.size = bA) := by rw [← hwR, ← hbR]; exact ⟨below_then FB.out.1 FR.out.1, FB.out.2.1.below FR.out.1, FR.out.2, FB.out.2.2⟩
      rw [hwR, hbR]
      clear FR FB hwR hbR d1 d2 z0 z1 z2 z3 z4 z5 z6 lA
      have ZA := FC.out.2.1
      have z0 : wR.cell? ⟨bA, 0, none⟩ = some (.int .i64 hw) := ZA.cell 0
      have z1 : wR.cell? ⟨bA, 1, none⟩ = some (.int .i64 fi) := ZA.cell 1
      have z2 : wR.cell? ⟨bA, 2, none⟩ = some (.int .i64 ti) := ZA.cell 2
      have z3 : wR.cell? ⟨bA, 3, none⟩ = some (.bool pa) := ZA.cell 3
      have z4 : wR.cell? ⟨bA, 4, none⟩ = some (.bool pb) := ZA.cell 4
      have z5 : wR.cell? ⟨bA, 5, none⟩ = some (.bool pc) := ZA.cell 5
      have z6 : wR.cell? ⟨bA, 6, none⟩ = some (.int .i64 kd) := ZA.cell 6
      have lA := ZA.lt
      clear ZA
      have q0 : wR.cell? ⟨bR, 0, none⟩ = some (.int .i64 fi) := FC.out.2.2.1.cell 0
      have q1 : wR.cell? ⟨bR, 1, none⟩ = some (.int .i64 ti) := FC.out.2.2.1.cell 1
      have lR := FC.out.2.2.1.lt
      have l64 := AS.out.lw.len
      have hc := AS.out.c1
      by_cases k1 : hw = 1
      · subst k1
        obtain ⟨E, hE⟩ : ∃ E, Re.errA (Re.addN L ⟨fi, ti, pa, pb, pc, kd⟩) (Re.addL L ⟨fi, ti, pa, pb, pc, kd⟩) = E := ⟨_, rfl⟩
        obtain ⟨M, hM⟩ : ∃ M, Re.outL (Re.addN L ⟨fi, ti, pa, pb, pc, kd⟩) (Re.addL L ⟨fi, ti, pa, pb, pc, kd⟩) = M := ⟨_, rfl⟩
        have CC : Hid (Calls Tryd.prog 8 #[.slice p L.length c, .agg #[.int .i64 fi, .int .i64 ti, .bool pa, .bool pb, .bool pc, .int .i64 kd]] wR fun e w' => ∃ p' c', e = .returned (.tuple #[.slice p' M.length c', .int .i64 E]) ∧ M.length ≤ c' ∧ Re.IsL w' wR.heap.size p' M ∧ Below wR.heap.size wR w') := add_new p c L (by omega) hc ⟨fi, ti, pa, pb, pc, kd⟩ E M hE hM wR (AS.out.is.below FC.out.1)
        have CH : Hid (E = 0 → ∃ f t : Nat, fi = f ∧ ti = t ∧ Chd L M 1 f t pa pb pc kd) := fun e0 => by
          rw [e0] at hE
          rw [out_zero hE] at hM
          rw [← hM]
          exact chd_add AS.out.lw (by omega) pa pb pc kd hE
        clear hE hM
        obtain ⟨nL, hnL⟩ : ∃ nL, L.length = nL := ⟨_, rfl⟩
        obtain ⟨nM, hnM⟩ : ∃ nM, M.length = nM := ⟨_, rfl⟩
        rw [hnL, hnM] at CC
        rw [hnL]
        go_wp2_with fail
        refine Calls.mono CC.out ?_
        rintro e w3 ⟨p1, c1, rfl, hc1, hi1, hb1⟩
        have FD : Hid (Below wo.heap.size wo w3 ∧ Blk w3 bA [.int .i64 1, .int .i64 fi, .int .i64 ti, .bool pa, .bool pb, .bool pc, .int .i64 kd] 40 ∧ Re.IsL w3 wR.heap.size p1 M ∧ nM ≤ c1 ∧ wo.heap.size ≤ wR.heap.size ∧ wo.heap.size = bA) := ⟨below_then FC.out.1 hb1, FC.out.2.1.below hb1, hi1, hc1, FC.out.1.size, FC.out.2.2.2⟩
        clear CC FC hb1 hi1 hc1 z0 z1 z2 z3 z4 z5 z6 lA q0 q1 lR
        have ZA := FD.out.2.1
        have z0 : w3.cell? ⟨bA, 0, none⟩ = some (.int .i64 1) := ZA.cell 0
        have z1 : w3.cell? ⟨bA, 1, none⟩ = some (.int .i64 fi) := ZA.cell 1
        have z2 : w3.cell? ⟨bA, 2, none⟩ = some (.int .i64 ti) := ZA.cell 2
        have z3 : w3.cell? ⟨bA, 3, none⟩ = some (.bool pa) := ZA.cell 3
        have z4 : w3.cell? ⟨bA, 4, none⟩ = some (.bool pb) := ZA.cell 4
        have z5 : w3.cell? ⟨bA, 5, none⟩ = some (.bool pc) := ZA.cell 5
        have z6 : w3.cell? ⟨bA, 6, none⟩ = some (.int .i64 kd) := ZA.cell 6
        have lA := ZA.lt
        clear ZA
        by_cases ez : E = 0
        rotate_left
        · have eb : (E == 0) = false := by simp [ez]
          have eb2 : ¬ E = 0 := ez
          go_wp2_with fail
          go_roundw
          case rel => exact ⟨i + 1, by omega, by omega, by go_num, by have q := AS.out.stay FD.out.1; rw [hnL] at q; exact q⟩
          case measure => simp [Go.RowKit.intOf]; omega
        obtain ⟨f, t, hf, ht, hch⟩ := CH.out ez
        subst ez hf ht
        have HC : Hid (Chd L M 1 f t pa pb pc kd) := hch
        clear hch CH
        have FT : f < t ∧ t ≤ 40 := ⟨HC.out.2.1, by omega⟩
        have J0 : Hid (AlI (pm0 rb b tb 60) root (XW Y wo w3) w3 L M f i f w3) := AS.out.start FD.out.1 M f
        go_wp2_with fail
        go_loopw [15, 16, 125, 135, 141] (fun vk _ _ _ _ W => ∃ k : Nat, f ≤ k ∧ k ≤ t ∧ vk = .int .i64 k ∧ Hid (AlI (pm0 rb b tb 60) root (XW Y wo w3) w3 L M f i k W)) (fun vk _ _ _ _ _ => t - (Go.RowKit.intOf vk).toNat)
        case atStart => exact ⟨f, by omega, by omega, rfl, J0⟩
        case round =>
          clear J0 z0 z1 z2 z3 z4 z5 z6 lA
          obtain ⟨k, fk, kt2, rfl, HJ⟩ := hrel
          have KK : Kx (XW Y wo w3) w3 wr := by obtain ⟨_, _, _, _, _, _, kx⟩ := HJ.out; exact kx
          have ZA := FD.out.2.1.kx KK (Or.inr ⟨by have := FD.out.2.2.2.2.2; omega, FD.out.2.1.lt⟩)
          have z0 : wr.cell? ⟨bA, 0, none⟩ = some (.int .i64 1) := ZA.cell 0
          have z1 : wr.cell? ⟨bA, 1, none⟩ = some (.int .i64 (f : Int)) := ZA.cell 1
          have z2 : wr.cell? ⟨bA, 2, none⟩ = some (.int .i64 (t : Int)) := ZA.cell 2
          have z3 : wr.cell? ⟨bA, 3, none⟩ = some (.bool pa) := ZA.cell 3
          have z4 : wr.cell? ⟨bA, 4, none⟩ = some (.bool pb) := ZA.cell 4
          have z5 : wr.cell? ⟨bA, 5, none⟩ = some (.bool pc) := ZA.cell 5
          have z6 : wr.cell? ⟨bA, 6, none⟩ = some (.int .i64 kd) := ZA.cell 6
          have lA := ZA.lt
          clear ZA
          have BB : Hid (Blk wr B [pp rb, pp b, pp tb, .int .i64 0] 27) := (BB2.out.kx AS.out.kx XB.out.1 |>.below FD.out.1).kx KK (Or.inl (AS.out.xy _ XB.out.1))
          have BX := BB.out
          have x0 : wr.cell? ⟨B, 0, none⟩ = some (pp rb) := BX.cell 0
          have x1 : wr.cell? ⟨B, 1, none⟩ = some (pp b) := BX.cell 1
          have x2 : wr.cell? ⟨B, 2, none⟩ = some (pp tb) := BX.cell 2
          have x3 : wr.cell? ⟨B, 3, none⟩ = some (.int .i64 0) := BX.cell 3
          have lB := BX.lt
          clear BX
          clear BB KK
          by_cases kt3 : k < t
          rotate_left
          · have e1 : k = t := by omega
            have e2 : decide ((k : Int) < (t : Int)) = false := by simp; omega
            have NX : Hid (AlO (pm0 rb b tb 60) root X w2 (i + 1) (.slice p1 nM c1) wr) := by
              have q := AS.out.done FD.out.1 HC.out FT.2 (by rw [← e1]; exact HJ.out) FD.out.2.2.2.2.1 (by rw [hnM]; exact FD.out.2.2.2.1) FD.out.2.2.1
              rw [hnM] at q
              exact q
            go_wp2_with fail
            go_roundw
            all_goals first
              | exact ⟨i + 1, by omega, by omega, by go_num, NX⟩
              | exact ⟨⟨i + 1, by omega, by omega, by go_num, NX⟩, by simp [Go.RowKit.intOf]; omega⟩
              | (simp [Go.RowKit.intOf]; omega)
          have e2 : decide ((k : Int) < (t : Int)) = true := by simp; omega
          have v1 : IntKind.i64.wrap ((k : Int) + 100) = (k : Int) + 100 := by simp only [IntKind.wrap_i64]; omega
          have MC : Hid (Calls Tryd.prog 11 #[.agg #[pp rb, pp b, pp tb, .int .i64 0], .int .i64 root, .int .i64 (k : Int), .int .i64 ((k : Int) + 100), .agg #[.bool pa, .bool pb, .bool pc]] wr fun e w' => e = .returned (.int .i64 0) ∧ AlI (pm0 rb b tb 60) root (XW Y wo w3) w3 L M f i (k + 1) w') := by
            have q := HJ.out.map AS.out.lw HC.out (by omega) fk kt3 FT.2
            exact q
          go_wp2_with fail
          refine Calls.mono MC.out ?_
          rintro e w6 ⟨rfl, hJ6⟩
          have J6 : Hid (AlI (pm0 rb b tb 60) root (XW Y wo w3) w3 L M f i (k + 1) w6) := hJ6
          clear hJ6 MC HJ x0 x1 x2 x3 lB z0 z1 z2 z3 z4 z5 z6 lA
          go_wp2_with fail
          go_roundw
          case rel => exact ⟨k + 1, by omega, by omega, by go_num, J6⟩
          case measure => simp [Go.RowKit.intOf]; omega
      have kb1 : (hw == 1) = false := by simp [k1]
      by_cases k2 : hw = 2
      · subst k2
        clear k1 kb1
        obtain ⟨E, hE⟩ : ∃ E, Re.errA (Re.checkN L fi ti) (Re.chg (fun _ => Re.Rg.zero) fi ti L) = E := ⟨_, rfl⟩
        obtain ⟨M, hM⟩ : ∃ M, Re.outL (Re.checkN L fi ti) (Re.chg (fun _ => Re.Rg.zero) fi ti L) = M := ⟨_, rfl⟩
        have CC : Hid (Calls Tryd.prog 9 #[.slice p L.length c, .agg #[.int .i64 fi, .int .i64 ti]] wR fun e w' => ∃ p' c', e = .returned (.tuple #[.slice p' M.length c', .int .i64 E]) ∧ M.length ≤ c' ∧ Re.IsL w' wR.heap.size p' M ∧ Below wR.heap.size wR w') := cut_new p c L (by omega) fi ti E M hE hM wR (AS.out.is.below FC.out.1)
        have CH : Hid (E = 0 → ∃ f t : Nat, fi = f ∧ ti = t ∧ Chd L M 2 f t pa pb pc kd) := fun e0 => by
          rw [e0] at hE
          rw [out_zero hE] at hM
          rw [← hM]
          exact chd_cut AS.out.lw (by omega) pa pb pc kd hE
        clear hE hM
        obtain ⟨nL, hnL⟩ : ∃ nL, L.length = nL := ⟨_, rfl⟩
        obtain ⟨nM, hnM⟩ : ∃ nM, M.length = nM := ⟨_, rfl⟩
        rw [hnL, hnM] at CC
        rw [hnL]
        go_wp2_with fail
        refine Calls.mono CC.out ?_
        rintro e w3 ⟨p1, c1, rfl, hc1, hi1, hb1⟩
        have FD : Hid (Below wo.heap.size wo w3 ∧ Blk w3 bA [.int .i64 2, .int .i64 fi, .int .i64 ti, .bool pa, .bool pb, .bool pc, .int .i64 kd] 40 ∧ Re.IsL w3 wR.heap.size p1 M ∧ nM ≤ c1 ∧ wo.heap.size ≤ wR.heap.size ∧ wo.heap.size = bA) := ⟨below_then FC.out.1 hb1, FC.out.2.1.below hb1, hi1, hc1, FC.out.1.size, FC.out.2.2.2⟩
        clear CC FC hb1 hi1 hc1 z0 z1 z2 z3 z4 z5 z6 lA q0 q1 lR
        have ZA := FD.out.2.1
        have z0 : w3.cell? ⟨bA, 0, none⟩ = some (.int .i64 2) := ZA.cell 0
        have z1 : w3.cell? ⟨bA, 1, none⟩ = some (.int .i64 fi) := ZA.cell 1
        have z2 : w3.cell? ⟨bA, 2, none⟩ = some (.int .i64 ti) := ZA.cell 2
        have z3 : w3.cell? ⟨bA, 3, none⟩ = some (.bool pa) := ZA.cell 3
        have z4 : w3.cell? ⟨bA, 4, none⟩ = some (.bool pb) := ZA.cell 4
        have z5 : w3.cell? ⟨bA, 5, none⟩ = some (.bool pc) := ZA.cell 5
        have z6 : w3.cell? ⟨bA, 6, none⟩ = some (.int .i64 kd) := ZA.cell 6
        have lA := ZA.lt
        clear ZA
        by_cases ez : E = 0
        rotate_left
        · have eb : (E == 0) = false := by simp [ez]
          have eb2 : ¬ E = 0 := ez
          go_wp2_with fail
          go_roundw
          case rel => exact ⟨i + 1, by omega, by omega, by go_num, by have q := AS.out.stay FD.out.1; rw [hnL] at q; exact q⟩
          case measure => simp [Go.RowKit.intOf]; omega
        obtain ⟨f, t, hf, ht, hch⟩ := CH.out ez
        subst ez hf ht
        have HC : Hid (Chd L M 2 f t pa pb pc kd) := hch
        clear hch CH
        have FT : f < t ∧ t ≤ 40 := ⟨HC.out.2.1, by omega⟩
        have J0 : Hid (AlI (pm0 rb b tb 60) root (XW Y wo w3) w3 L M f i f w3) := AS.out.start FD.out.1 M f
        go_wp2_with fail
        go_loopw [15, 16, 125, 135, 141] (fun vk _ _ _ _ W => ∃ k : Nat, f ≤ k ∧ k ≤ t ∧ vk = .int .i64 k ∧ Hid (AlI (pm0 rb b tb 60) root (XW Y wo w3) w3 L M f i k W)) (fun vk _ _ _ _ _ => t - (Go.RowKit.intOf vk).toNat)
        case atStart => exact ⟨f, by omega, by omega, rfl, J0⟩
        case round =>
          clear J0 z0 z1 z2 z3 z4 z5 z6 lA
          obtain ⟨k, fk, kt2, rfl, HJ⟩ := hrel
          have KK : Kx (XW Y wo w3) w3 wr := by obtain ⟨_, _, _, _, _, _, kx⟩ := HJ.out; exact kx
          have ZA := FD.out.2.1.kx KK (Or.inr ⟨by have := FD.out.2.2.2.2.2; omega, FD.out.2.1.lt⟩)
          have z0 : wr.cell? ⟨bA, 0, none⟩ = some (.int .i64 2) := ZA.cell 0
          have z1 : wr.cell? ⟨bA, 1, none⟩ = some (.int .i64 (f : Int)) := ZA.cell 1
          have z2 : wr.cell? ⟨bA, 2, none⟩ = some (.int .i64 (t : Int)) := ZA.cell 2
          have z3 : wr.cell? ⟨bA, 3, none⟩ = some (.bool pa) := ZA.cell 3
          have z4 : wr.cell? ⟨bA, 4, none⟩ = some (.bool pb) := ZA.cell 4
          have z5 : wr.cell? ⟨bA, 5, none⟩ = some (.bool pc) := ZA.cell 5
          have z6 : wr.cell? ⟨bA, 6, none⟩ = some (.int .i64 kd) := ZA.cell 6
          have lA := ZA.lt
          clear ZA
          have BB : Hid (Blk wr B [pp rb, pp b, pp tb, .int .i64 0] 27) := (BB2.out.kx AS.out.kx XB.out.1 |>.below FD.out.1).kx KK (Or.inl (AS.out.xy _ XB.out.1))
          have BX := BB.out
          have x0 : wr.cell? ⟨B, 0, none⟩ = some (pp rb) := BX.cell 0
          have x1 : wr.cell? ⟨B, 1, none⟩ = some (pp b) := BX.cell 1
          have x2 : wr.cell? ⟨B, 2, none⟩ = some (pp tb) := BX.cell 2
          have x3 : wr.cell? ⟨B, 3, none⟩ = some (.int .i64 0) := BX.cell 3
          have lB := BX.lt
          clear BX
          clear BB KK
          by_cases kt3 : k < t
          rotate_left
          · have e1 : k = t := by omega
            have e2 : decide ((k : Int) < (t : Int)) = false := by simp; omega
            have NX : Hid (AlO (pm0 rb b tb 60) root X w2 (i + 1) (.slice p1 nM c1) wr) := by
              have q := AS.out.done FD.out.1 HC.out FT.2 (by rw [← e1]; exact HJ.out) FD.out.2.2.2.2.1 (by rw [hnM]; exact FD.out.2.2.2.1) FD.out.2.2.1
              rw [hnM] at q
              exact q
            go_wp2_with fail
            go_roundw
            all_goals first
              | exact ⟨i + 1, by omega, by omega, by go_num, NX⟩
              | exact ⟨⟨i + 1, by omega, by omega, by go_num, NX⟩, by simp [Go.RowKit.intOf]; omega⟩
              | (simp [Go.RowKit.intOf]; omega)
          have e2 : decide ((k : Int) < (t : Int)) = true := by simp; omega
          have v1 : IntKind.i64.wrap ((k : Int) + 100) = (k : Int) + 100 := by simp only [IntKind.wrap_i64]; omega
          have MC : Hid (Calls Tryd.prog 12 #[.agg #[pp rb, pp b, pp tb, .int .i64 0], .int .i64 root, .int .i64 (k : Int)] wr fun e w' => (∃ a b : Int, e = .returned (.tuple #[.int .i64 a, .int .i64 b])) ∧ AlI (pm0 rb b tb 60) root (XW Y wo w3) w3 L M f i (k + 1) w') := by
            have q := HJ.out.unmap AS.out.lw HC.out (by omega) fk kt3 FT.2
            exact q
          go_wp2_with fail
          refine Calls.mono MC.out ?_
          rintro e w6 ⟨⟨_, _, rfl⟩, hJ6⟩
          have J6 : Hid (AlI (pm0 rb b tb 60) root (XW Y wo w3) w3 L M f i (k + 1) w6) := hJ6
          clear hJ6 MC HJ x0 x1 x2 x3 lB z0 z1 z2 z3 z4 z5 z6 lA
          go_wp2_with fail
          go_roundw
          case rel => exact ⟨k + 1, by omega, by omega, by go_num, J6⟩
          case measure => simp [Go.RowKit.intOf]; omega
      have kb2 : (hw == 2) = false := by simp [k2]
      by_cases k3 : hw = 3
      · subst k3
        clear k1 kb1 k2 kb2
        obtain ⟨E, hE⟩ : ∃ E, Re.errA (Re.protN L fi ti) (Re.chg (fun r => r.may pa pb pc) fi ti L) = E := ⟨_, rfl⟩
        obtain ⟨M, hM⟩ : ∃ M, Re.outL (Re.protN L fi ti) (Re.chg (fun r => r.may pa pb pc) fi ti L) = M := ⟨_, rfl⟩
        have CC : Hid (Calls Tryd.prog 10 #[.slice p L.length c, .agg #[.int .i64 fi, .int .i64 ti], .agg #[.bool pa, .bool pb, .bool pc]] wR fun e w' => ∃ p' c', e = .returned (.tuple #[.slice p' M.length c', .int .i64 E]) ∧ M.length ≤ c' ∧ Re.IsL w' wR.heap.size p' M ∧ Below wR.heap.size wR w') := prot_new p c L (by omega) fi ti pa pb pc E M hE hM wR (AS.out.is.below FC.out.1)
        have CH : Hid (E = 0 → ∃ f t : Nat, fi = f ∧ ti = t ∧ Chd L M 3 f t pa pb pc kd) := fun e0 => by
          rw [e0] at hE
          rw [out_zero hE] at hM
          rw [← hM]
          exact chd_prot AS.out.lw (by omega) pa pb pc kd hE
        clear hE hM
        obtain ⟨nL, hnL⟩ : ∃ nL, L.length = nL := ⟨_, rfl⟩
        obtain ⟨nM, hnM⟩ : ∃ nM, M.length = nM := ⟨_, rfl⟩
        rw [hnL, hnM] at CC
        rw [hnL]
        go_wp2_with fail
        refine Calls.mono CC.out ?_
        rintro e w3 ⟨p1, c1, rfl, hc1, hi1, hb1⟩
        have FD : Hid (Below wo.heap.size wo w3 ∧ Blk w3 bA [.int .i64 3, .int .i64 fi, .int .i64 ti, .bool pa, .bool pb, .bool pc, .int .i64 kd] 40 ∧ Re.IsL w3 wR.heap.size p1 M ∧ nM ≤ c1 ∧ wo.heap.size ≤ wR.heap.size ∧ wo.heap.size = bA) := ⟨below_then FC.out.1 hb1, FC.out.2.1.below hb1, hi1, hc1, FC.out.1.size, FC.out.2.2.2⟩
        clear CC FC hb1 hi1 hc1 z0 z1 z2 z3 z4 z5 z6 lA q0 q1 lR
        have ZA := FD.out.2.1
        have z0 : w3.cell? ⟨bA, 0, none⟩ = some (.int .i64 3) := ZA.cell 0
        have z1 : w3.cell? ⟨bA, 1, none⟩ = some (.int .i64 fi) := ZA.cell 1
        have z2 : w3.cell? ⟨bA, 2, none⟩ = some (.int .i64 ti) := ZA.cell 2
        have z3 : w3.cell? ⟨bA, 3, none⟩ = some (.bool pa) := ZA.cell 3
        have z4 : w3.cell? ⟨bA, 4, none⟩ = some (.bool pb) := ZA.cell 4
        have z5 : w3.cell? ⟨bA, 5, none⟩ = some (.bool pc) := ZA.cell 5
        have z6 : w3.cell? ⟨bA, 6, none⟩ = some (.int .i64 kd) := ZA.cell 6
        have lA := ZA.lt
        clear ZA
        by_cases ez : E = 0
        rotate_left
        · have eb : (E == 0) = false := by simp [ez]
          have eb2 : ¬ E = 0 := ez
          go_wp2_with fail
          go_roundw
          case rel => exact ⟨i + 1, by omega, by omega, by go_num, by have q := AS.out.stay FD.out.1; rw [hnL] at q; exact q⟩
          case measure => simp [Go.RowKit.intOf]; omega
        obtain ⟨f, t, hf, ht, hch⟩ := CH.out ez
        subst ez hf ht
        have HC : Hid (Chd L M 3 f t pa pb pc kd) := hch
        clear hch CH
        have FT : f < t ∧ t ≤ 40 := ⟨HC.out.2.1, by omega⟩
        have J0 : Hid (AlI (pm0 rb b tb 60) root (XW Y wo w3) w3 L M f i f w3) := AS.out.start FD.out.1 M f
        go_wp2_with fail
        go_loopw [15, 16, 125, 135, 141] (fun vk _ _ _ _ W => ∃ k : Nat, f ≤ k ∧ k ≤ t ∧ vk = .int .i64 k ∧ Hid (AlI (pm0 rb b tb 60) root (XW Y wo w3) w3 L M f i k W)) (fun vk _ _ _ _ _ => t - (Go.RowKit.intOf vk).toNat)
        case atStart => exact ⟨f, by omega, by omega, rfl, J0⟩
        case round =>
          clear J0 z0 z1 z2 z3 z4 z5 z6 lA
          obtain ⟨k, fk, kt2, rfl, HJ⟩ := hrel
          have KK : Kx (XW Y wo w3) w3 wr := by obtain ⟨_, _, _, _, _, _, kx⟩ := HJ.out; exact kx
          have ZA := FD.out.2.1.kx KK (Or.inr ⟨by have := FD.out.2.2.2.2.2; omega, FD.out.2.1.lt⟩)
          have z0 : wr.cell? ⟨bA, 0, none⟩ = some (.int .i64 3) := ZA.cell 0
          have z1 : wr.cell? ⟨bA, 1, none⟩ = some (.int .i64 (f : Int)) := ZA.cell 1
          have z2 : wr.cell? ⟨bA, 2, none⟩ = some (.int .i64 (t : Int)) := ZA.cell 2
          have z3 : wr.cell? ⟨bA, 3, none⟩ = some (.bool pa) := ZA.cell 3
          have z4 : wr.cell? ⟨bA, 4, none⟩ = some (.bool pb) := ZA.cell 4
          have z5 : wr.cell? ⟨bA, 5, none⟩ = some (.bool pc) := ZA.cell 5
          have z6 : wr.cell? ⟨bA, 6, none⟩ = some (.int .i64 kd) := ZA.cell 6
          have lA := ZA.lt
          clear ZA
          have BB : Hid (Blk wr B [pp rb, pp b, pp tb, .int .i64 0] 27) := (BB2.out.kx AS.out.kx XB.out.1 |>.below FD.out.1).kx KK (Or.inl (AS.out.xy _ XB.out.1))
          have BX := BB.out
          have x0 : wr.cell? ⟨B, 0, none⟩ = some (pp rb) := BX.cell 0
          have x1 : wr.cell? ⟨B, 1, none⟩ = some (pp b) := BX.cell 1
          have x2 : wr.cell? ⟨B, 2, none⟩ = some (pp tb) := BX.cell 2
          have x3 : wr.cell? ⟨B, 3, none⟩ = some (.int .i64 0) := BX.cell 3
          have lB := BX.lt
          clear BX
          clear BB KK
          by_cases kt3 : k < t
          rotate_left
          · have e1 : k = t := by omega
            have e2 : decide ((k : Int) < (t : Int)) = false := by simp; omega
            have NX : Hid (AlO (pm0 rb b tb 60) root X w2 (i + 1) (.slice p1 nM c1) wr) := by
              have q := AS.out.done FD.out.1 HC.out FT.2 (by rw [← e1]; exact HJ.out) FD.out.2.2.2.2.1 (by rw [hnM]; exact FD.out.2.2.2.1) FD.out.2.2.1
              rw [hnM] at q
              exact q
            go_wp2_with fail
            go_roundw
            all_goals first
              | exact ⟨i + 1, by omega, by omega, by go_num, NX⟩
              | exact ⟨⟨i + 1, by omega, by omega, by go_num, NX⟩, by simp [Go.RowKit.intOf]; omega⟩
              | (simp [Go.RowKit.intOf]; omega)
          have e2 : decide ((k : Int) < (t : Int)) = true := by simp; omega
          have v1 : IntKind.i64.wrap ((k : Int) + 100) = (k : Int) + 100 := by simp only [IntKind.wrap_i64]; omega
          have MC : Hid (Calls Tryd.prog 13 #[.agg #[pp rb, pp b, pp tb, .int .i64 0], .int .i64 root, .int .i64 (k : Int), .agg #[.bool pa, .bool pb, .bool pc]] wr fun e w' => e = .returned (.int .i64 0) ∧ AlI (pm0 rb b tb 60) root (XW Y wo w3) w3 L M f i (k + 1) w') := by
            have q := HJ.out.prot AS.out.lw HC.out (by omega) fk kt3 FT.2
            exact q
          go_wp2_with fail
          refine Calls.mono MC.out ?_
          rintro e w6 ⟨rfl, hJ6⟩
          have J6 : Hid (AlI (pm0 rb b tb 60) root (XW Y wo w3) w3 L M f i (k + 1) w6) := hJ6
          clear hJ6 MC HJ x0 x1 x2 x3 lB z0 z1 z2 z3 z4 z5 z6 lA
          go_wp2_with fail
          go_roundw
          case rel => exact ⟨k + 1, by omega, by omega, by go_num, J6⟩
          case measure => simp [Go.RowKit.intOf]; omega
      have kb3 : (hw == 3) = false := by simp [k3]
      go_wp2_with fail
      go_roundw
      case rel => exact ⟨i + 1, by omega, by omega, by go_num, AS.out.stay FC.out.1⟩
      case measure => simp [Go.RowKit.intOf]; omega
  case rest =>
    clear I0 HA m0
    have I1 : Hid (AlO (pm0 rb b tb 60) root X w2 30 u9 wc) := hcut
    clear hcut
    obtain ⟨Y, s, tab, lf, L, p, c, hv, hS⟩ := I1.out
    subst hv
    have AS : Hid (AlS (pm0 rb b tb 60) root X w2 30 Y s tab lf L p c wc) := hS
    clear hS I1
    have LW : Hid (Below w.heap.size w wc) := by
      have q := AS.out.kx
      exact L2.out.trans ⟨q.os, q.tape, q.output, q.size, fun j hj => q.block j (XB.out.2 j hj)⟩
    have BBc : Hid (Blk wc B [pp rb, pp b, pp tb, .int .i64 0] 27) := BB2.out.kx AS.out.kx XB.out.1
    obtain ⟨nL, hnL⟩ : ∃ nL, L.length = nL := ⟨_, rfl⟩
    rw [hnL]
    have W0 : Hid (Below wc.heap.size wc wc) := ⟨rfl, rfl, rfl, Nat.le_refl _, fun _ _ => rfl⟩
    go_wp2_with fail
    go_loopw [17, 18, 19, 20, 21, 22] (fun vk _ _ _ _ _ W => ∃ k : Nat, k ≤ 40 ∧ vk = .int .i64 k ∧ Hid (Below wc.heap.size wc W)) (fun vk _ _ _ _ _ _ => 40 - (Go.RowKit.intOf vk).toNat)
    case atStart => exact ⟨0, by omega, rfl, W0⟩
    case round =>
      clear W0
      obtain ⟨k, k40, rfl, HW⟩ := hrel
      by_cases kt : k < 40
      rotate_left
      · have e1 : decide ((k : Int) < 40) = false := by simp; omega
        obtain ⟨N, PGx, CNx⟩ := AS.out.ends
        have PGC : Hid (Calls Tryd.prog 16 #[.agg #[pp rb, pp b, pp tb, .int .i64 0], .int .i64 root] wr fun e w' => ∃ (pf : Option Addr) (cf : Nat), e = .returned (.slice pf N cf) ∧ Below wr.heap.size wr w') := by
          have q := PGx.out wr HW.out
          exact q
        have CNC : Hid (∀ W : World, Below wc.heap.size wc W → Calls Tryd.prog 17 #[.slice p nL c, .agg #[.int .i64 0, .int .i64 40]] W fun e w' => e = .returned (.int .i64 (N : Int)) ∧ Below W.heap.size W w') := fun W hb => by
          have q := CNx.out W hb
          rw [hnL] at q
          exact q
        clear PGx CNx
        have BB : Hid (Blk wr B [pp rb, pp b, pp tb, .int .i64 0] 27) := BBc.out.below HW.out
        have BX := BB.out
        have x0 : wr.cell? ⟨B, 0, none⟩ = some (pp rb) := BX.cell 0
        have x1 : wr.cell? ⟨B, 1, none⟩ = some (pp b) := BX.cell 1
        have x2 : wr.cell? ⟨B, 2, none⟩ = some (pp tb) := BX.cell 2
        have x3 : wr.cell? ⟨B, 3, none⟩ = some (.int .i64 0) := BX.cell 3
        have lB := BX.lt
        clear BX
        go_wp2_with fail
        refine Calls.mono PGC.out ?_
        rintro e u1 ⟨pf, cf, rfl, hb1⟩
        have H1 : Hid (Below wc.heap.size wc u1) := below_then HW.out hb1
        clear hb1 BB x0 x1 x2 x3 lB PGC
        go_wp2_with fail
        refine Calls.mono (CNC.out u1 H1.out) ?_
        rintro e u2 ⟨rfl, hb2⟩
        have H2 : Hid (Below w.heap.size w u2) := below_then (below_then LW.out H1.out) hb2
        clear hb2 H1 CNC
        go_wp2_with fail
        go_returns
        exact ⟨rfl, H2.out⟩
      have e1 : decide ((k : Int) < 40) = true := by simp; omega
      rcases AS.out.page k with ⟨r, FCx, QCx⟩ | ⟨r, FCx, QCx⟩
      · obtain ⟨rf, rt, ra, rb2, rc, rk⟩ := r
        have FC : Hid (Calls Tryd.prog 14 #[.slice p nL c, .int .i64 (k : Int)] wr fun e w' => e = .returned (.tuple #[.agg #[.int .i64 rf, .int .i64 rt, .bool ra, .bool rb2, .bool rc, .int .i64 rk], .bool false]) ∧ Below wr.heap.size wr w') := by
          have q := FCx.out wr HW.out
          rw [hnL] at q
          exact q
        go_wp2_with fail
        refine Calls.mono FC.out ?_
        rintro e u1 ⟨rfl, hb1⟩
        have G1 : Hid (Below wc.heap.size wc (u1.alloc (.cells #[.int .i64 rf, .int .i64 rt, .bool ra, .bool rb2, .bool rc, .int .i64 rk] 46)) ∧ Blk (u1.alloc (.cells #[.int .i64 rf, .int .i64 rt, .bool ra, .bool rb2, .bool rc, .int .i64 rk] 46)) u1.heap.size [.int .i64 rf, .int .i64 rt, .bool ra, .bool rb2, .bool rc, .int .i64 rk] 46) := ⟨below_then (below_then HW.out hb1) (Go.Joins.below_alloc1 _ _), Blk.made u1 [.int .i64 rf, .int .i64 rt, .bool ra, .bool rb2, .bool rc, .int .i64 rk] 46⟩
        clear hb1 FC FCx
        go_upto_region 43 with fail
        obtain ⟨u2, hu2⟩ : ∃ u2, u1.alloc (.cells #[.int .i64 rf, .int .i64 rt, .bool ra, .bool rb2, .bool rc, .int .i64 rk] 46) = u2 := ⟨_, rfl⟩
        obtain ⟨b1, hb1⟩ : ∃ b1, u1.heap.size = b1 := ⟨_, rfl⟩
        rw [hu2, hb1] at G1 ⊢
        clear hu2 hb1
        have QC : Hid (Calls Tryd.prog 15 #[.agg #[pp rb, pp b, pp tb, .int .i64 0], .int .i64 root, .int .i64 (k : Int)] u2 fun e w' => e = .returned (.tuple #[.int .i64 0, .agg #[.bool false, .bool false, .bool false], .bool false]) ∧ Below u2.heap.size u2 w') := by
          have q := QCx.out u2 G1.out.1
          exact q
        have BB : Hid (Blk u2 B [pp rb, pp b, pp tb, .int .i64 0] 27) := BBc.out.below G1.out.1
        have BX := BB.out
        have x0 : u2.cell? ⟨B, 0, none⟩ = some (pp rb) := BX.cell 0
        have x1 : u2.cell? ⟨B, 1, none⟩ = some (pp b) := BX.cell 1
        have x2 : u2.cell? ⟨B, 2, none⟩ = some (pp tb) := BX.cell 2
        have x3 : u2.cell? ⟨B, 3, none⟩ = some (.int .i64 0) := BX.cell 3
        have lB := BX.lt
        clear BX
        go_wp2_with fail
        refine Calls.mono QC.out ?_
        rintro e u3 ⟨rfl, hb3⟩
        have G3 : Hid (Below wc.heap.size wc (u3.alloc (.cells #[.bool false, .bool false, .bool false] 38)) ∧ Blk (u3.alloc (.cells #[.bool false, .bool false, .bool false] 38)) b1 [.int .i64 rf, .int .i64 rt, .bool ra, .bool rb2, .bool rc, .int .i64 rk] 46 ∧ Blk (u3.alloc (.cells #[.bool false, .bool false, .bool false] 38)) u3.heap.size [.bool false, .bool false, .bool false] 38) := ⟨below_then (below_then G1.out.1 hb3) (Go.Joins.below_alloc1 _ _), (G1.out.2.below hb3).below (Go.Joins.below_alloc1 _ _), Blk.made u3 [.bool false, .bool false, .bool false] 38⟩
        clear hb3 QC QCx BB x0 x1 x2 x3 lB G1
        go_upto_region 44 with fail
        obtain ⟨u4, hu4⟩ : ∃ u4, u3.alloc (.cells #[.bool false, .bool false, .bool false] 38) = u4 := ⟨_, rfl⟩
        obtain ⟨b3, hb3⟩ : ∃ b3, u3.heap.size = b3 := ⟨_, rfl⟩
        rw [hu4, hb3] at G3 ⊢
        clear hu4 hb3
        have HN : Hid (Below wc.heap.size wc u4) := G3.out.1
        clear G3
        go_wp2_with fail
        go_roundw
        case rel => exact ⟨k + 1, by omega, by go_num, HN⟩
        case measure => simp [Go.RowKit.intOf]; omega
      · obtain ⟨rf, rt, ra, rb2, rc, rk⟩ := r
        have FC : Hid (Calls Tryd.prog 14 #[.slice p nL c, .int .i64 (k : Int)] wr fun e w' => e = .returned (.tuple #[.agg #[.int .i64 rf, .int .i64 rt, .bool ra, .bool rb2, .bool rc, .int .i64 rk], .bool true]) ∧ Below wr.heap.size wr w') := by
          have q := FCx.out wr HW.out
          rw [hnL] at q
          exact q
        go_wp2_with fail
        refine Calls.mono FC.out ?_
        rintro e u1 ⟨rfl, hb1⟩
        have G1 : Hid (Below wc.heap.size wc (u1.alloc (.cells #[.int .i64 rf, .int .i64 rt, .bool ra, .bool rb2, .bool rc, .int .i64 rk] 46)) ∧ Blk (u1.alloc (.cells #[.int .i64 rf, .int .i64 rt, .bool ra, .bool rb2, .bool rc, .int .i64 rk] 46)) u1.heap.size [.int .i64 rf, .int .i64 rt, .bool ra, .bool rb2, .bool rc, .int .i64 rk] 46) := ⟨below_then (below_then HW.out hb1) (Go.Joins.below_alloc1 _ _), Blk.made u1 [.int .i64 rf, .int .i64 rt, .bool ra, .bool rb2, .bool rc, .int .i64 rk] 46⟩
        clear hb1 FC FCx
        go_upto_region 43 with fail
        obtain ⟨u2, hu2⟩ : ∃ u2, u1.alloc (.cells #[.int .i64 rf, .int .i64 rt, .bool ra, .bool rb2, .bool rc, .int .i64 rk] 46) = u2 := ⟨_, rfl⟩
        obtain ⟨b1, hb1⟩ : ∃ b1, u1.heap.size = b1 := ⟨_, rfl⟩
        rw [hu2, hb1] at G1 ⊢
        clear hu2 hb1
        have QC : Hid (Calls Tryd.prog 15 #[.agg #[pp rb, pp b, pp tb, .int .i64 0], .int .i64 root, .int .i64 (k : Int)] u2 fun e w' => e = .returned (.tuple #[.int .i64 ((k : Int) + 100), .agg #[.bool ra, .bool rb2, .bool rc], .bool true]) ∧ Below u2.heap.size u2 w') := by
          have q := QCx.out u2 G1.out.1
          exact q
        have BB : Hid (Blk u2 B [pp rb, pp b, pp tb, .int .i64 0] 27) := BBc.out.below G1.out.1
        have BX := BB.out
        have x0 : u2.cell? ⟨B, 0, none⟩ = some (pp rb) := BX.cell 0
        have x1 : u2.cell? ⟨B, 1, none⟩ = some (pp b) := BX.cell 1
        have x2 : u2.cell? ⟨B, 2, none⟩ = some (pp tb) := BX.cell 2
        have x3 : u2.cell? ⟨B, 3, none⟩ = some (.int .i64 0) := BX.cell 3
        have lB := BX.lt
        clear BX
        go_wp2_with fail
        refine Calls.mono QC.out ?_
        rintro e u3 ⟨rfl, hb3⟩
        have G3 : Hid (Below wc.heap.size wc (u3.alloc (.cells #[.bool ra, .bool rb2, .bool rc] 38)) ∧ Blk (u3.alloc (.cells #[.bool ra, .bool rb2, .bool rc] 38)) b1 [.int .i64 rf, .int .i64 rt, .bool ra, .bool rb2, .bool rc, .int .i64 rk] 46 ∧ Blk (u3.alloc (.cells #[.bool ra, .bool rb2, .bool rc] 38)) u3.heap.size [.bool ra, .bool rb2, .bool rc] 38) := ⟨below_then (below_then G1.out.1 hb3) (Go.Joins.below_alloc1 _ _), (G1.out.2.below hb3).below (Go.Joins.below_alloc1 _ _), Blk.made u3 [.bool ra, .bool rb2, .bool rc] 38⟩
        clear hb3 QC QCx BB x0 x1 x2 x3 lB G1
        go_upto_region 44 with fail
        obtain ⟨u4, hu4⟩ : ∃ u4, u3.alloc (.cells #[.bool ra, .bool rb2, .bool rc] 38) = u4 := ⟨_, rfl⟩
        obtain ⟨b3, hb3⟩ : ∃ b3, u3.heap.size = b3 := ⟨_, rfl⟩
        rw [hu4, hb3] at G3 ⊢
        clear hu4 hb3
        have r2 : u4.cell? ⟨b1, 2, none⟩ = some (.bool ra) := G3.out.2.1.cell 2
        have r3 : u4.cell? ⟨b1, 3, none⟩ = some (.bool rb2) := G3.out.2.1.cell 3
        have r4 : u4.cell? ⟨b1, 4, none⟩ = some (.bool rc) := G3.out.2.1.cell 4
        have s0 : u4.cell? ⟨b3, 0, none⟩ = some (.bool ra) := G3.out.2.2.cell 0
        have s1 : u4.cell? ⟨b3, 1, none⟩ = some (.bool rb2) := G3.out.2.2.cell 1
        have s2 : u4.cell? ⟨b3, 2, none⟩ = some (.bool rc) := G3.out.2.2.cell 2
        have l1 := G3.out.2.1.lt
        have l3 := G3.out.2.2.lt
        have np := nePermS ra rb2 rc u4
        have v1 : IntKind.i64.wrap ((k : Int) + 100) = (k : Int) + 100 := by simp only [IntKind.wrap_i64]; omega
        have HN : Hid (Below wc.heap.size wc u4) := G3.out.1
        clear G3
        go_wp2_with fail
        go_roundw
        case rel => exact ⟨k + 1, by omega, by go_num, HN⟩
        case measure => simp [Go.RowKit.intOf]; omega

set_option maxRecDepth 100000 in
theorem lifted (os : Os) (started : os.Started) (H : Type) (enc : TypeId × Value → H) :
    ReturnsInHanded {} Tryd.checked os 3 .any (fun w args => (Rows.demesneAlikeSpec.pre enc Tryd.prog Tryd.f3 [] false w args ∧ laidMetH Tryd.prog laidL w) ∧ sizedMet enc Tryd.prog Tryd.f3 (OpenSpec.ofChange Rows.demesneAlikeSpec) false w args)
      (Rows.demesneAlikeSpec.post enc Tryd.prog Tryd.f3 false true false false) := by
  refine returnsInHanded_of_change_and (C := Tryd.checked) (X := fun w _ => laidMetH Tryd.prog laidL w) (fun _ _ _ hh h => h.of_heap hh) own started (by kernel_rfl) Tryd.func3
    (ChangeSpec.witness_shaped (enc := enc) (C := Tryd.checked) (os := os) (X := fun w _ => laidMetH Tryd.prog laidL w) false (World.doorLaid Tryd.prog 400 os) #[.slice none 0 0] 8 rfl (World.shaped_of_RefB (by kernel_rfl) (by kernel_rfl)) (by kernel_rfl) (by kernel_rfl) (by kernel_rfl) (door_met os _)) ?_
  intro W base args ds gs before hval0 hW _ _ hL _
  have hval : ∀ (j : Nat) t v, Tryd.f3.params[j]? = some t → args[j]? = some v → Value.okWide Tryd.prog W .any base t v := hval0
  have hW' := hW
  obtain ⟨p, q, hA0, hV, hbef, hfz, hnd⟩ := hW
  have hA : DataW.TrodAll enc Tryd.prog W 0 (fun _ => true) true Tryd.f3.params.toList args.toList ds p := hA0
  have hAk := hA
  have hlt : ∀ x ∈ p, x.block < W.heap.size := fun x hx => hW'.lt x (by rw [hbef]; exact List.mem_append_left _ hx)
  rw [Tryd.params3] at hA hval
  obtain ⟨v0, vs0, d0, ds0, p0, q0, hargs, rfl, hp0, h0, r0⟩ := trodAll_cons hA
  obtain ⟨rfl, rfl, hpz⟩ := trodAll_nil r0
  obtain rfl : args = #[v0] := by cases args; simp_all
  obtain ⟨rfl, rfl⟩ := trodVars_none hV
  obtain ⟨p0, n0, c0, A0, rfl, m0, H0⟩ := Re.open_acts (hval 0 22 v0 rfl rfl) h0
  clear hA0 hval0
  refine (walk p0 n0 c0 A0 m0 W (of_laid hL) H0).mono fun e W' ⟨he, hg⟩ => ?_
  subst he
  exact ⟨_, rfl, ⟨_, _, _, [], p, [], hW', (trodAll_cons_mk (shut_bool Tryd.underlying4 _) trodAll_mk0), args_stay laidOut hg (by kernel_rfl) hAk hlt, rfl, hg.frame _, fun h => by cases h⟩⟩

theorem over : Rows.demesneAlikeRow.holds Tryd.pinned (OpenSpec.ofChange Rows.demesneAlikeSpec) :=
  OpenClaim.holds_of_wide 3 Tryd.f3 rfl rfl rfl rfl rfl rfl rfl ⟨rfl, rfl, rfl, rfl, rfl⟩ rfl rfl rfl rfl rfl (by kernel_rfl) Tryd.func3 (by kernel_rfl)
    (of_decide_eq_true (by kernel_rfl)) (by unfold Func.isWrapper; first | (rw [if_pos (by decide +kernel)]; kernel_rfl) | (rw [if_neg (by decide +kernel)]; exact ⟨rfl, rfl⟩))
    (fun os started H enc _ => lifted os started H enc)

theorem proved : Rows.DemesneAlikeCardSaid :=
  Claim7.holds_tied_plain_at .later [] [.data] true (true, "dcdf1d4237d8ac3888537850c06b418794931e1c7f2206f8bee54c97e8eb03b1") true
    over (fun _ h => by cases h) (by kernel_rfl) (fun _ h => by cases h) demesneAlike_row_tie rfl ⟨rfl, rfl⟩ (by kernel_rfl) rfl
    (fun f fn hf hfn => by
      obtain rfl : f = 3 := Option.some.inj ((show Tryd.prog.funcNamed "demesne/demesnetop.DemesneAlike" = some 3 by kernel_rfl).symm.trans hf) |>.symm
      obtain rfl : fn = Tryd.f3 := (Option.some.inj (Tryd.func3.symm.trans hfn)).symm
      exact ⟨by kernel_rfl, fun j t ht => by
        rw [Tryd.params3] at ht
        have hm : t ∈ [22] := by simpa using Array.mem_of_getElem? ht
        have hall : ([22].all fun u => !Tryd.prog.wantsStandIn u) = true := by kernel_rfl
        exact (show Tryd.prog.wantsStandIn t = false by simpa using List.all_eq_true.1 hall t hm)⟩)
    (by kernel_rfl)
#print axioms proved
end Go.Proofs.YtkiclbnbnjbcaabDoor.demesneAlike
