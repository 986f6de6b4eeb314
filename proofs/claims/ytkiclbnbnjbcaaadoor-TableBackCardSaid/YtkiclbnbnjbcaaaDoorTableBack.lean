/- TableBack: when all pages lead nowhere any more, in whatever order, just the root is left; it is given back, and all frames but those of the kernel are free. No condition. -/
import Derived.Test.YtkiclbnbnjbcaaaDoorRows
import Derived.Test.YtkiclbnbnjbcaaaDoorCards
import Derived.Test.YtkiclbnbnjbcaaaDoorTie
import Derived.ProofKit
import Derived.OpenShut
import Derived.Stop.Joined
import Derived.SevenTiedAt
import Derived.Test.YtkiclbnbnjbcaaaDoorME
namespace Go.Proofs.YtkiclbnbnjbcaaaDoor.tableBack
open Go.ChangeShapes Go.WideShapes Go.ChangeAt Go.RowKit
set_option linter.unusedSimpArgs false
set_option linter.unusedVariables false
open Go.Proofs.YtkiclbnbnjbcaaaDoor.Tt
set_option maxRecDepth 8000
theorem below_dr (W : World) : Below W.heap.size W W.drew := ⟨rfl, rfl, rfl, Nat.le_refl _, fun _ _ => rfl⟩
theorem kx_drew (X : Nat → Prop) (W : World) : Kx X W W.drew := ⟨rfl, rfl, rfl, Nat.le_refl _, fun _ _ => rfl⟩
theorem bk_drew {X : Nat → Prop} {m : Pm} {root c q : Nat} {W : World} (h : Bk X m root c q W) : Bk X m root c q W.drew := bk_below h (below_dr W)
theorem bk_less {X X' : Nat → Prop} {m : Pm} {root c q : Nat} {W : World} (h : Bk X' m root c q W) (hx : ∀ j, X j → X' j) (h0 : X 0) : Bk X m root c q W := by
  obtain ⟨s, tab, lf, h1, h2, h3⟩ := h
  exact ⟨s, tab, lf, ⟨h1.pu.less hx h0, h1.rt, h1.nm, h1.tF⟩, h2, h3⟩
theorem st_drew {X : Nat → Prop} {m : Pm} {root k : Nat} {R U : Int} {F : Nat} {s : Ps} {tab : Nat → Nat → Option Nat} {lf : Nat → Option Lf} {W : World} (h : St X m root k R U F s tab lf W) : St X m root k R U F s tab lf W.drew := h.below (below_dr W)

set_option maxHeartbeats 8000000 in
theorem walk (p0 : Option Addr) (n0 c0 : Nat) (A0 : Nat → Ac) (m0 : n0 ≤ maxLen) (p1 : Option Addr) (n1 c1 : Nat) (A1 : Nat → Int) (m1 : n1 ≤ maxLen) (w : World) (ht : Tab w) (H0 : IsActs w p0 n0 A0) (H1 : IsInts w p1 n1 A1) :
    Calls Tryd.prog 5 #[.slice p0 n0 c0, .slice p1 n1 c1] w fun e w' => e = .returned (.bool true) ∧ Below w.heap.size w w' := by
  have AW : Hid (∀ W : World, Tab W → Calls Tryd.prog 10 #[] W fun e w' => e = .returned (.bool true) ∧ Below W.heap.size W w') := fun W t => awake_any W t
  have HT : Hid (Tab w) := ht
  have WP : Hid (0 < w.heap.size) := ht.1
  have HA : Hid (IsActs w p0 n0 A0) := H0
  have HI : Hid (IsInts w p1 n1 A1) := H1
  have PC : Hid _ := purse_ok w ht 140 140 (by omega) (by omega) (by omega) (by omega)
  clear ht H0 H1
  go_enter Tryd.func5, Tryd.ntmps5
  go_wp2_with fail
  refine Calls.mono PC.out ?_
  rintro e w1 ⟨rb, b, tb, rfl, hp1, hb1⟩
  obtain ⟨X, hX⟩ : ∃ X : Nat → Prop, X = XW (fun j => j < w.heap.size) w1 (w1.alloc (.cells #[pp rb, pp b, pp tb, .int .i64 0] 27)) := ⟨_, rfl⟩
  have F2 : Hid (Pu X (w1.alloc (.cells #[pp rb, pp b, pp tb, .int .i64 0] 27)) (pm0 rb b tb 140) (ps0 (from1 140) 140) ∧ Blk (w1.alloc (.cells #[pp rb, pp b, pp tb, .int .i64 0] 27)) w1.heap.size [pp rb, pp b, pp tb, .int .i64 0] 27 ∧ X w1.heap.size ∧ (∀ j, j < w.heap.size → X j) ∧ Below w.heap.size w (w1.alloc (.cells #[pp rb, pp b, pp tb, .int .i64 0] 27))) := by
    refine ⟨by rw [hX]; exact hp1.grow (Go.Joins.below_alloc1 _ _), Blk.made w1 [pp rb, pp b, pp tb, .int .i64 0] 27, by rw [hX]; exact Or.inr ⟨Nat.le_refl _, by rw [World.size_alloc]; omega⟩, fun j hj => by rw [hX]; exact Or.inl hj, below_then hb1 (Go.Joins.below_alloc1 _ _)⟩
  clear hp1 hb1 hX PC
  go_upto_region 2 with fail
  generalize (w1.alloc (.cells #[pp rb, pp b, pp tb, .int .i64 0] 27)) = w2 at F2 ⊢
  generalize w1.heap.size = B at F2 ⊢
  have XB : Hid (X B ∧ (∀ j, j < w.heap.size → X j)) := ⟨F2.out.2.2.1, F2.out.2.2.2.1⟩
  have L2 : Hid (Below w.heap.size w w2) := F2.out.2.2.2.2
  have BB : Hid (Blk w2 B [pp rb, pp b, pp tb, .int .i64 0] 27) := F2.out.2.1
  have P0 : Hid (Pu X w2 (pm0 rb b tb 140) (ps0 (from1 140) 140)) := F2.out.1
  have N0 : Hid (Nums (pm0 rb b tb 140) (ps0 (from1 140) 140) 0 140 0 139) := nums0 (pm0 rb b tb 140) 140 140 (by omega) (by omega)
  clear F2
  have KC : Hid (Calls Tryd.prog 11 #[.agg #[pp rb, pp b, pp tb, .int .i64 0]] w2 fun e w' => ∃ (L : List Nat) (kf : Nat), e = .returned (.tuple #[.int .i64 kf, .int .i64 0]) ∧ (L.length = 2 ∧ InL (ps0 (from1 140) 140) L ∧ kf ∈ L) ∧ Wrote X w2 (pm0 rb b tb 140) (ps0 (from1 140) 140) 0 L w') := by
    refine (kernel_ok P0.out (by show (1 : Int) ≤ 140; omega) 0 (N0.out.box (by omega)) (by show 0 < _; omega) (by rw [N0.out.room]; show 1 + ((140 : Int) + 262143) / 262144 ≤ 140; omega)).mono ?_
    rintro e w' ⟨L, kf, he, ⟨h1, h2⟩, hw⟩
    have h1' : (L.length : Int) = 1 + ((140 : Int) + 262143) / 262144 := h1
    exact ⟨L, kf, he, ⟨by omega, h2⟩, hw⟩
  have BX := BB.out
  have x0 : w2.cell? ⟨B, 0, none⟩ = some (pp rb) := BX.cell 0
  have x1 : w2.cell? ⟨B, 1, none⟩ = some (pp b) := BX.cell 1
  have x2 : w2.cell? ⟨B, 2, none⟩ = some (pp tb) := BX.cell 2
  have x3 : w2.cell? ⟨B, 3, none⟩ = some (.int .i64 0) := BX.cell 3
  have lB := BX.lt
  clear BX
  go_wp2_with fail
  refine Calls.mono KC.out ?_
  rintro e w3 ⟨L, kf, rfl, ⟨hl, IN, hkf⟩, M3, hp3, hk3, ho3⟩
  have B3 : Hid (Blk w3 B [pp rb, pp b, pp tb, .int .i64 0] 27) := BB.out.kx hk3 XB.out.1
  have K3 : Hid (Kx X w2 w3 ∧ kf < 1048576) := ⟨hk3, by have := P0.out.so.frb kf (IN.2 kf hkf); omega⟩
  have N3 : Hid (Nums (pm0 rb b tb 140) _ 0 (140 - L.length) (0 + L.length) (139 - L.length)) := N0.out.take P0.out.so IN M3 (0 + 5000)
  obtain ⟨s3, hs3⟩ : ∃ s3 : Ps, s3 = { takeS (ps0 (from1 140) 140) 0 L with M := M3, q := 0 + 5000 } := ⟨_, rfl⟩
  have P3 : Hid (Pu X w3 (pm0 rb b tb 140) s3 ∧ s3.q = 5000) := by rw [hs3]; exact ⟨hp3, rfl⟩
  have N3' : Hid (Nums (pm0 rb b tb 140) s3 0 138 2 137) := by have q := N3.out; rw [← hs3, hl] at q; exact q
  clear hs3 hl IN hkf hp3 hk3 ho3 BB N0 P0 N3
  have BB := B3
  clear B3
  clear x0 x1 x2 x3 lB KC
  have UC : Hid (Calls Tryd.prog 17 #[.agg #[pp rb, pp b, pp tb, .int .i64 0]] w3 fun e w' => e = .returned (.int .i64 2) ∧ Below w3.heap.size w3 w') := by
    have q := used_n P3.out.1 N3'.out
    exact q
  have BX := BB.out
  have x0 : w3.cell? ⟨B, 0, none⟩ = some (pp rb) := BX.cell 0
  have x1 : w3.cell? ⟨B, 1, none⟩ = some (pp b) := BX.cell 1
  have x2 : w3.cell? ⟨B, 2, none⟩ = some (pp tb) := BX.cell 2
  have x3 : w3.cell? ⟨B, 3, none⟩ = some (.int .i64 0) := BX.cell 3
  have lB := BX.lt
  clear BX
  go_wp2_with fail
  refine Calls.mono UC.out ?_
  rintro e w3u ⟨rfl, hb3⟩
  have P3' : Hid (Pu X w3u (pm0 rb b tb 140) s3 ∧ s3.q = 5000) := ⟨P3.out.1.below hb3, P3.out.2⟩
  have K3' : Hid (Kx X w2 w3u ∧ kf < 1048576) := ⟨K3.out.1.trans (Kx.of_below P3.out.1 hb3), K3.out.2⟩
  have B3 : Hid (Blk w3u B [pp rb, pp b, pp tb, .int .i64 0] 27) := BB.out.below hb3
  clear UC hb3 P3 K3 BB x0 x1 x2 x3 lB
  have P3 := P3'
  have K3 := K3'
  have BB := B3
  clear P3' K3' B3
  have RC : Hid (Calls Tryd.prog 13 #[.agg #[pp rb, pp b, pp tb, .int .i64 0], .int .i64 kf] w3u fun e w' => ∃ root : Nat, e = .returned (.tuple #[.int .i64 root, .int .i64 0]) ∧ Rooted X w3u (pm0 rb b tb 140) s3 0 root w') := root_ok P3.out.1 0 (N3'.out.box (by omega)) (by rw [P3.out.2]; omega) (by rw [N3'.out.room]; omega) kf K3.out.2
  have BX := BB.out
  have x0 : w3u.cell? ⟨B, 0, none⟩ = some (pp rb) := BX.cell 0
  have x1 : w3u.cell? ⟨B, 1, none⟩ = some (pp b) := BX.cell 1
  have x2 : w3u.cell? ⟨B, 2, none⟩ = some (pp tb) := BX.cell 2
  have x3 : w3u.cell? ⟨B, 3, none⟩ = some (.int .i64 0) := BX.cell 3
  have lB := BX.lt
  clear BX
  go_wp2_with fail
  refine Calls.mono RC.out ?_
  rintro e w4 ⟨root, rfl, M4, hF, hp4, hk4, hz4, _⟩
  have B4 : Hid (Blk w4 B [pp rb, pp b, pp tb, .int .i64 0] 27) := BB.out.kx hk4 XB.out.1
  have K4 : Hid (Kx X w2 w4) := K3.out.1.trans hk4
  have IN4 : InL s3 [root] := ⟨by simp, fun p hp => by simp at hp; subst hp; exact hF⟩
  have N4' : Nums (pm0 rb b tb 140) _ 0 (138 - ([root] : List Nat).length) (2 + ([root] : List Nat).length) (137 - ([root] : List Nat).length) := N3'.out.take P3.out.1.so IN4 M4 (s3.q + 2)
  have R4' : Rt (pm0 rb b tb 140) _ root (tab1 root) (fun _ => none) := rt_root (k := 0) (q := s3.q + 2) P3.out.1.so hF hz4
  obtain ⟨s4, hs4⟩ : ∃ s4 : Ps, s4 = { takeS s3 0 [root] with M := M4, q := s3.q + 2 } := ⟨_, rfl⟩
  rw [← hs4] at N4' R4' hp4
  have N4 : Hid (Nums (pm0 rb b tb 140) s4 0 137 3 136) := N4'
  have R4 : Hid (Rt (pm0 rb b tb 140) s4 root (tab1 root) (fun _ => none)) := R4'
  have P4 : Hid (Pu X w4 (pm0 rb b tb 140) s4 ∧ s4.q ≤ 6000) := ⟨hp4, by rw [hs4]; show s3.q + 2 ≤ 6000; have := P3.out.2; omega⟩
  clear hF hp4 hk4 hz4 IN4 N4' R4' BB K3 P3 N3' hs4
  have BB := B4
  clear B4
  clear x0 x1 x2 x3 lB RC
  have XB0 : Hid (X 0) := P4.out.1.x0
  have I0 : Hid (Bk X (pm0 rb b tb 140) root 0 6000 w4 ∧ Kx X w2 w4 ∧ Blk w4 B [pp rb, pp b, pp tb, .int .i64 0] 27) := ⟨⟨s4, _, _, ⟨P4.out.1, R4.out, by rw [pgs_none]; exact N4.out, by rw [pgs_none]; decide⟩, by rw [pgs_none]; simp, P4.out.2⟩, K4.out, BB.out⟩
  clear P4 R4 N4 K4 BB
  go_upto_block 0 with fail
  go_cut [12] (fun _ wx => Hid (Bk X (pm0 rb b tb 140) root 30 6300 wx ∧ Kx X w2 wx ∧ Blk wx B [pp rb, pp b, pp tb, .int .i64 0] 27))
  case first =>
    go_wp2_with fail
    go_loopw [12] (fun vi W => ∃ k : Nat, k ≤ n0 ∧ k ≤ 30 ∧ vi = .int .i64 k ∧ Hid (Bk X (pm0 rb b tb 140) root k (6000 + 10 * k) W ∧ Kx X w2 W ∧ Blk W B [pp rb, pp b, pp tb, .int .i64 0] 27)) (fun vi _ => 30 - (Go.RowKit.intOf vi).toNat)
    case atStart => exact ⟨0, by omega, by omega, rfl, I0⟩
    case round =>
      clear I0
      obtain ⟨k, hk, hk30, rfl, HP⟩ := hrel
      by_cases hlt : k < n0 ∧ k < 30
      rotate_left
      · have HE : Hid (Bk X (pm0 rb b tb 140) root 30 6300 wr ∧ Kx X w2 wr ∧ Blk wr B [pp rb, pp b, pp tb, .int .i64 0] 27) := ⟨bk_mono HP.out.1 (by omega) (by omega), HP.out.2⟩
        have hd : (decide ((k : Int) < (n0 : Int)) = false ∧ ¬ k < n0) ∨ (decide ((k : Int) < (n0 : Int)) = true ∧ decide ((k : Int) < 30) = false ∧ k < n0 ∧ ¬ k < 30) := by
          by_cases c : k < n0
          · right; simp; omega
          · left; simp; omega
        clear hlt HP
        rcases hd with ⟨hd, hn⟩ | ⟨hd, hd2, hn, hn2⟩
        · go_wp2_with fail
          go_meet
          exact HE
        · go_wp2_with fail
          go_meet
          exact HE
      obtain ⟨hlt, hlt2⟩ := hlt
      have LW : Hid (Below w.heap.size w wr) := by
        have q := HP.out.2.1
        exact L2.out.trans ⟨q.os, q.tape, q.output, q.size, fun j hj => q.block j (XB.out.2 j hj)⟩
      have hd : decide ((k : Int) < (n0 : Int)) = true := by simp; omega
      have hd2 : decide ((k : Int) < 30) = true := by simp; omega
      have hd0 : decide ((k : Int) < 0) = false := by simp
      obtain ⟨bq, oq, rfl, lq, y0, y1, y2, y3, y4, y5, gx⟩ := (HA.out.below LW.out) k hlt
      have XQ : Hid (X bq) := by
        obtain ⟨b', o', e', l', _⟩ := HA.out k hlt
        cases e'
        exact XB.out.2 _ l'
      generalize A0 k = st at y0 y1 y2 y3 y4 y5 gx
      obtain ⟨kd, pg, fg, qa, qb, qc⟩ := st
      simp only at y0 y1 y2 y3 y4 y5 gx
      have SZ : Hid (Blk wr B [pp rb, pp b, pp tb, .int .i64 0] 27 ∧ wr.cell? ⟨bq, oq + k * 6 + 1, none⟩ = some (.int .i64 pg) ∧ wr.cell? ⟨bq, oq + k * 6 + 2, none⟩ = some (.int .i64 fg) ∧ wr.cell? ⟨bq, oq + k * 6 + 3, none⟩ = some (.bool qa) ∧ wr.cell? ⟨bq, oq + k * 6 + 4, none⟩ = some (.bool qb) ∧ wr.cell? ⟨bq, oq + k * 6 + 5, none⟩ = some (.bool qc)) := ⟨HP.out.2.2, y1, y2, y3, y4, y5⟩
      have MC : Hid (∀ W : World, Bk X (pm0 rb b tb 140) root k (6000 + 10 * k) W → Calls Tryd.prog 26 #[.agg #[pp rb, pp b, pp tb, .int .i64 0], .int .i64 root, .int .i64 pg, .int .i64 fg, .agg #[.bool qa, .bool qb, .bool qc]] W fun e w' => ∃ z : Int, e = .returned (.int .i64 z) ∧ Bk X (pm0 rb b tb 140) root (k + 1) (6000 + 10 * (k + 1)) w' ∧ Kx X W w') := fun W h => by
        have q := bk_map h hlt2 (by omega) pg fg qa qb qc
        rw [show 6000 + 10 * (k + 1) = 6000 + 10 * k + 10 by omega]
        exact q
      clear y0 y1 y2 y3 y4 y5 gx LW
      go_upto_region 12 with fail
      refine wp_region_noPanic ?_
      refine wp_region_held_drew (S := fun cw => Blk cw B [pp rb, pp b, pp tb, .int .i64 0] 27 ∧ cw.cell? ⟨bq, oq + k * 6 + 1, none⟩ = some (.int .i64 pg) ∧ cw.cell? ⟨bq, oq + k * 6 + 2, none⟩ = some (.int .i64 fg) ∧ cw.cell? ⟨bq, oq + k * 6 + 3, none⟩ = some (.bool qa) ∧ cw.cell? ⟨bq, oq + k * 6 + 4, none⟩ = some (.bool qb) ∧ cw.cell? ⟨bq, oq + k * 6 + 5, none⟩ = some (.bool qc)) (by kernel_rfl) ?_ (fun hHeld => ?_)
      · exact SZ.out
      have GU : Hid (Bk X (pm0 rb b tb 140) root k (6000 + 10 * k) wr.drew ∧ Kx X w2 wr.drew) := ⟨bk_drew HP.out.1, HP.out.2.1.trans (kx_drew _ _)⟩
      clear SZ HP
      generalize wr.drew = U at hHeld GU ⊢
      refine wpAnyH_take (i := 0) (oi := ⟨some 56, _, _, _, _, none⟩) (v := (.agg #[pp rb, pp b, pp tb, .int .i64 0])) rfl (by kernel_rfl) (by kernel_rfl) (by kernel_rfl) (fun _ _ _ h => h) (Or.inl ⟨by rfl, ?_⟩) (by assumption) ?_
      · intro w hSw; (try dsimp only at hSw); have r0 := Blk.cell hSw.1 0; have r1 := Blk.cell hSw.1 1; have r2 := Blk.cell hSw.1 2; have r3 := Blk.cell hSw.1 3; (try go_simp); (try simp [*])
      try simp only [Act.put, List.setIfInBounds_toArray, List.set_cons_zero, List.set_cons_succ]
      refine wpAnyH_take (i := 1) (oi := ⟨some 57, _, _, _, _, none⟩) (v := ?_) rfl (by kernel_rfl) (by kernel_rfl) (by kernel_rfl) (fun _ _ _ h => h) (Or.inl ⟨by rfl, ?_⟩) (by assumption) ?_
      rotate_left
      · intro w hSw; (try dsimp only at hSw); go_simp; (try with_reducible rfl)
      try simp only [Act.put, List.setIfInBounds_toArray, List.set_cons_zero, List.set_cons_succ]
      refine wpAnyH_take (i := 2) (oi := ⟨some 58, _, _, _, _, none⟩) (v := ?_) rfl (by kernel_rfl) (by kernel_rfl) (by kernel_rfl) (fun _ _ _ h => h) (Or.inl ⟨by rfl, ?_⟩) (by assumption) ?_
      rotate_left
      · intro w hSw; (try dsimp only at hSw); go_simp; (try with_reducible rfl)
      try simp only [Act.put, List.setIfInBounds_toArray, List.set_cons_zero, List.set_cons_succ]
      refine wpAnyH_take (i := 3) (oi := ⟨some 59, _, _, _, _, none⟩) (v := ?_) rfl (by kernel_rfl) (by kernel_rfl) (by kernel_rfl) (fun _ _ _ h => h) (Or.inl ⟨by rfl, ?_⟩) (by assumption) ?_
      rotate_left
      · intro w hSw; (try dsimp only at hSw); go_simp; (try with_reducible rfl)
      try simp only [Act.put, List.setIfInBounds_toArray, List.set_cons_zero, List.set_cons_succ]
      refine wpAnyH_take (i := 4) (oi := ⟨some 60, _, _, _, _, none⟩) (v := ?_) rfl (by kernel_rfl) (by kernel_rfl) (by kernel_rfl) (fun _ _ _ h => h) (Or.inl ⟨by rfl, ?_⟩) (by assumption) ?_
      rotate_left
      · intro w hSw; (try dsimp only at hSw); go_simp; (try with_reducible rfl)
      try simp only [Act.put, List.setIfInBounds_toArray, List.set_cons_zero, List.set_cons_succ]
      refine wpAnyH_take (i := 5) (oi := ⟨some 61, _, _, _, _, none⟩) (v := ?_) rfl (by kernel_rfl) (by kernel_rfl) (by kernel_rfl) (fun _ _ _ h => h) (Or.inl ⟨by rfl, ?_⟩) (by assumption) ?_
      rotate_left
      · intro w hSw; (try dsimp only at hSw); go_simp; (try with_reducible rfl)
      try simp only [Act.put, List.setIfInBounds_toArray, List.set_cons_zero, List.set_cons_succ]
      refine wpAnyH_take (i := 6) (oi := ⟨some 62, _, _, _, _, none⟩) (v := (.int .i64 pg)) rfl (by kernel_rfl) (by kernel_rfl) (by kernel_rfl) (fun _ _ _ h => h) (Or.inl ⟨by rfl, ?_⟩) (by assumption) ?_
      · intro w hSw; (try dsimp only at hSw); have r := hSw.2.1; (try go_simp); (try simp [*])
      try simp only [Act.put, List.setIfInBounds_toArray, List.set_cons_zero, List.set_cons_succ]
      refine wpAnyH_take (i := 7) (oi := ⟨some 63, _, _, _, _, none⟩) (v := ?_) rfl (by kernel_rfl) (by kernel_rfl) (by kernel_rfl) (fun _ _ _ h => h) (Or.inl ⟨by rfl, ?_⟩) (by assumption) ?_
      rotate_left
      · intro w hSw; (try dsimp only at hSw); go_simp; (try with_reducible rfl)
      try simp only [Act.put, List.setIfInBounds_toArray, List.set_cons_zero, List.set_cons_succ]
      refine wpAnyH_take (i := 8) (oi := ⟨some 64, _, _, _, _, none⟩) (v := ?_) rfl (by kernel_rfl) (by kernel_rfl) (by kernel_rfl) (fun _ _ _ h => h) (Or.inl ⟨by rfl, ?_⟩) (by assumption) ?_
      rotate_left
      · intro w hSw; (try dsimp only at hSw); go_simp; (try with_reducible rfl)
      try simp only [Act.put, List.setIfInBounds_toArray, List.set_cons_zero, List.set_cons_succ]
      refine wpAnyH_take (i := 9) (oi := ⟨some 65, _, _, _, _, none⟩) (v := ?_) rfl (by kernel_rfl) (by kernel_rfl) (by kernel_rfl) (fun _ _ _ h => h) (Or.inl ⟨by rfl, ?_⟩) (by assumption) ?_
      rotate_left
      · intro w hSw; (try dsimp only at hSw); go_simp; (try with_reducible rfl)
      try simp only [Act.put, List.setIfInBounds_toArray, List.set_cons_zero, List.set_cons_succ]
      refine wpAnyH_take (i := 10) (oi := ⟨some 66, _, _, _, _, none⟩) (v := ?_) rfl (by kernel_rfl) (by kernel_rfl) (by kernel_rfl) (fun _ _ _ h => h) (Or.inl ⟨by rfl, ?_⟩) (by assumption) ?_
      rotate_left
      · intro w hSw; (try dsimp only at hSw); go_simp; (try with_reducible rfl)
      try simp only [Act.put, List.setIfInBounds_toArray, List.set_cons_zero, List.set_cons_succ]
      refine wpAnyH_take (i := 11) (oi := ⟨some 67, _, _, _, _, none⟩) (v := (.int .i64 fg)) rfl (by kernel_rfl) (by kernel_rfl) (by kernel_rfl) (fun _ _ _ h => h) (Or.inl ⟨by rfl, ?_⟩) (by assumption) ?_
      · intro w hSw; (try dsimp only at hSw); have r := hSw.2.2.1; (try go_simp); (try simp [*])
      try simp only [Act.put, List.setIfInBounds_toArray, List.set_cons_zero, List.set_cons_succ]
      refine wpAnyH_take (i := 12) (oi := ⟨some 68, _, _, _, _, none⟩) (v := ?_) rfl (by kernel_rfl) (by kernel_rfl) (by kernel_rfl) (fun _ _ _ h => h) (Or.inl ⟨by rfl, ?_⟩) (by assumption) ?_
      rotate_left
      · intro w hSw; (try dsimp only at hSw); go_simp; (try with_reducible rfl)
      try simp only [Act.put, List.setIfInBounds_toArray, List.set_cons_zero, List.set_cons_succ]
      refine wpAnyH_take (i := 13) (oi := ⟨some 69, _, _, _, _, none⟩) (v := ?_) rfl (by kernel_rfl) (by kernel_rfl) (by kernel_rfl) (fun _ _ _ h => h) (Or.inl ⟨by rfl, ?_⟩) (by assumption) ?_
      rotate_left
      · intro w hSw; (try dsimp only at hSw); go_simp; (try with_reducible rfl)
      try simp only [Act.put, List.setIfInBounds_toArray, List.set_cons_zero, List.set_cons_succ]
      refine wpAnyH_take (i := 14) (oi := ⟨some 70, _, _, _, _, none⟩) (v := ?_) rfl (by kernel_rfl) (by kernel_rfl) (by kernel_rfl) (fun _ _ _ h => h) (Or.inl ⟨by rfl, ?_⟩) (by assumption) ?_
      rotate_left
      · intro w hSw; (try dsimp only at hSw); go_simp; (try with_reducible rfl)
      try simp only [Act.put, List.setIfInBounds_toArray, List.set_cons_zero, List.set_cons_succ]
      refine wpAnyH_take (i := 15) (oi := ⟨some 71, _, _, _, _, none⟩) (v := ?_) rfl (by kernel_rfl) (by kernel_rfl) (by kernel_rfl) (fun _ _ _ h => h) (Or.inl ⟨by rfl, ?_⟩) (by assumption) ?_
      rotate_left
      · intro w hSw; (try dsimp only at hSw); go_simp; (try with_reducible rfl)
      try simp only [Act.put, List.setIfInBounds_toArray, List.set_cons_zero, List.set_cons_succ]
      refine wpAnyH_take (i := 16) (oi := ⟨some 72, _, _, _, _, none⟩) (v := (.agg #[.bool qa, .bool qb, .bool qc])) rfl (by kernel_rfl) (by kernel_rfl) (by kernel_rfl) (fun _ _ _ h => h) (Or.inl ⟨by rfl, ?_⟩) (by assumption) ?_
      · intro w hSw; (try dsimp only at hSw); have r := hSw.2.2.2.1; have r1 := hSw.2.2.2.2.1; have r2 := hSw.2.2.2.2.2; have r3 : w.cell? ⟨bq, oq + k * 6 + 3 + 1, none⟩ = some (.bool qb) := r1; have r4 : w.cell? ⟨bq, oq + k * 6 + 3 + 2, none⟩ = some (.bool qc) := r2; (try go_simp); (try simp [*])
      try simp only [Act.put, List.setIfInBounds_toArray, List.set_cons_zero, List.set_cons_succ]
      refine wpAnyH_ready (rs := [17]) (by kernel_rfl) (by simp) ?_
      refine AllReadyH.cons (o := ⟨some 73, _, _, _, _, none⟩) rfl (fun K hK => ?_) AllReadyH.nil
      go_simp
      go_wp2_with (go_at_call 26; refine Calls.mono (MC.out _ GU.out.1) ?_; rintro e u2 ⟨zz, rfl, hW, hk⟩)
      have G2 : Hid (Bk X (pm0 rb b tb 140) root (k + 1) (6000 + 10 * (k + 1)) u2 ∧ Kx X w2 u2 ∧ Blk u2 B [pp rb, pp b, pp tb, .int .i64 0] 27) := ⟨hW, GU.out.2.trans hk, hHeld.1.kx hk XB.out.1⟩
      have hkc : ∀ j, u2.cell? ⟨bq, j, none⟩ = U.cell? ⟨bq, j, none⟩ := fun j => World.cell?_of_block (hk.block bq XQ.out)
      refine hK.out _ _ ⟨hHeld.1.kx hk XB.out.1, (hkc _).trans hHeld.2.1, (hkc _).trans hHeld.2.2.1, (hkc _).trans hHeld.2.2.2.1, (hkc _).trans hHeld.2.2.2.2.1, (hkc _).trans hHeld.2.2.2.2.2⟩ (fun hHeld2 => ?_)
      clear hK K hHeld hW hk hkc GU
      have hHeld := hHeld2
      clear hHeld2
      try simp only [Act.put, List.setIfInBounds_toArray, List.set_cons_zero, List.set_cons_succ]
      clear hHeld
      refine wpAnyH_done (by kernel_rfl) ?_ _
      refine NoPanic.normal ?_
      go_wp2_with fail
      go_roundw
      case rel => exact ⟨k + 1, by omega, by omega, by go_num, G2⟩
      case measure => simp [Go.RowKit.intOf]; omega
  case rest =>
    clear I0 HA m0
    have I1 : Hid (Bk X (pm0 rb b tb 140) root 30 6300 wc ∧ Kx X w2 wc ∧ Blk wc B [pp rb, pp b, pp tb, .int .i64 0] 27) := hcut
    clear hcut
    go_upto_block 2 with fail
    go_cut [13, 14, 15, 16] (fun _ _ _ _ wx => Hid (Bk X (pm0 rb b tb 140) root 30 6900 wx ∧ Kx X w2 wx ∧ Blk wx B [pp rb, pp b, pp tb, .int .i64 0] 27))
    case first =>
      go_wp2_with fail
      go_loopw [13, 14, 15, 16] (fun vi _ _ _ W => ∃ k : Nat, k ≤ n1 ∧ k ≤ 60 ∧ vi = .int .i64 k ∧ Hid (Bk X (pm0 rb b tb 140) root 30 (6300 + 10 * k) W ∧ Kx X w2 W ∧ Blk W B [pp rb, pp b, pp tb, .int .i64 0] 27)) (fun vi _ _ _ _ => 60 - (Go.RowKit.intOf vi).toNat)
      case atStart => exact ⟨0, by omega, by omega, rfl, I1⟩
      case round =>
        clear I1
        obtain ⟨k, hk, hk60, rfl, HP⟩ := hrel
        by_cases hlt : k < n1 ∧ k < 60
        rotate_left
        · have HE : Hid (Bk X (pm0 rb b tb 140) root 30 6900 wr ∧ Kx X w2 wr ∧ Blk wr B [pp rb, pp b, pp tb, .int .i64 0] 27) := ⟨bk_mono HP.out.1 (by omega) (by omega), HP.out.2⟩
          have hd : (decide ((k : Int) < (n1 : Int)) = false ∧ ¬ k < n1) ∨ (decide ((k : Int) < (n1 : Int)) = true ∧ decide ((k : Int) < 60) = false ∧ k < n1 ∧ ¬ k < 60) := by
            by_cases c : k < n1
            · right; simp; omega
            · left; simp; omega
          clear hlt HP
          rcases hd with ⟨hd, hn⟩ | ⟨hd, hd2, hn, hn2⟩
          · go_wp2_with fail
            go_meet
            exact HE
          · go_wp2_with fail
            go_meet
            exact HE
        obtain ⟨hlt, hlt2⟩ := hlt
        have LW : Hid (Below w.heap.size w wr) := by
          have q := HP.out.2.1
          exact L2.out.trans ⟨q.os, q.tape, q.output, q.size, fun j hj => q.block j (XB.out.2 j hj)⟩
        have hd : decide ((k : Int) < (n1 : Int)) = true := by simp; omega
        have hd2 : decide ((k : Int) < 60) = true := by simp; omega
        have hd0 : decide ((k : Int) < 0) = false := by simp
        obtain ⟨bq, oq, rfl, lq, y1, gx⟩ := HI.out k hlt
        have XQ : Hid (X bq) := XB.out.2 _ lq
        generalize A1 k = ov at y1 gx
        obtain ⟨s, tab, lf, hS, hlen, hsq⟩ := HP.out.1
        have PGC : Hid _ := hS.pages (by omega)
        have HS : Hid (St X (pm0 rb b tb 140) root 0 138 2 137 s tab lf wr) := hS
        have HLQ : Hid ((pgs lf).length ≤ 30 ∧ s.q ≤ 6300 + 10 * k) := ⟨hlen, hsq⟩
        have K0 : Hid (Kx X w2 wr) := HP.out.2.1
        have BB : Hid (Blk wr B [pp rb, pp b, pp tb, .int .i64 0] 27) := HP.out.2.2
        have BX := BB.out
        have x0 : wr.cell? ⟨B, 0, none⟩ = some (pp rb) := BX.cell 0
        have x1 : wr.cell? ⟨B, 1, none⟩ = some (pp b) := BX.cell 1
        have x2 : wr.cell? ⟨B, 2, none⟩ = some (pp tb) := BX.cell 2
        have x3 : wr.cell? ⟨B, 3, none⟩ = some (.int .i64 0) := BX.cell 3
        have lB := BX.lt
        clear BX
        clear hS hlen hsq HP
        go_wp2_with fail
        refine Calls.mono PGC.out ?_
        rintro e w6 ⟨pf, nl, cf, rfl, hL⟩
        have y6 : w6.cell? ⟨bq, oq + k, none⟩ = some (.int .i64 ov) := below_cell (below_then LW.out hL.bel) lq y1
        have lq6 : bq < w6.heap.size := Nat.lt_of_lt_of_le lq (below_then LW.out hL.bel).size
        have HLL : Hid (Listed wr w6 (pgs lf) pf nl cf) := hL
        obtain ⟨X6, hX6⟩ : ∃ X6, X6 = XW X wr w6 := ⟨_, rfl⟩
        have S6 : Hid (St X6 (pm0 rb b tb 140) root 0 138 2 137 s tab lf w6 ∧ Kx X w2 w6) := ⟨by rw [hX6]; exact HS.out.grow hL.bel, K0.out.trans (Kx.of_below HS.out.pu hL.bel)⟩
        have B6 : Hid (Blk w6 B [pp rb, pp b, pp tb, .int .i64 0] 27) := BB.out.below hL.bel
        clear hL PGC HS K0 BB x0 x1 x2 x3 lB LW lq y1
        by_cases o0 : 0 ≤ ov
        rotate_left
        · have do0 : decide (0 ≤ ov) = false := by simp; omega
          have G2 : Hid (Bk X (pm0 rb b tb 140) root 30 (6300 + 10 * (k + 1)) w6 ∧ Kx X w2 w6 ∧ Blk w6 B [pp rb, pp b, pp tb, .int .i64 0] 27) := ⟨bk_less ⟨s, tab, lf, S6.out.1, HLQ.out.1, by have := HLQ.out.2; omega⟩ (fun j hj => by rw [hX6]; exact Or.inl hj) XB0.out, S6.out.2, B6.out⟩
          clear S6 B6 HLL HLQ
          go_wp2_with fail
          go_roundw
          case rel => exact ⟨k + 1, by omega, by omega, by go_num, G2⟩
          case measure => simp [Go.RowKit.intOf]; omega
        have do0 : decide (0 ≤ ov) = true := by simp; omega
        obtain ⟨on, rfl⟩ := Int.eq_ofNat_of_zero_le o0
        by_cases o1 : on < nl
        rotate_left
        · have do1 : decide ((on : Int) < (nl : Int)) = false := by simp; omega
          have G2 : Hid (Bk X (pm0 rb b tb 140) root 30 (6300 + 10 * (k + 1)) w6 ∧ Kx X w2 w6 ∧ Blk w6 B [pp rb, pp b, pp tb, .int .i64 0] 27) := ⟨bk_less ⟨s, tab, lf, S6.out.1, HLQ.out.1, by have := HLQ.out.2; omega⟩ (fun j hj => by rw [hX6]; exact Or.inl hj) XB0.out, S6.out.2, B6.out⟩
          clear S6 B6 HLL HLQ
          go_wp2_with fail
          go_roundw
          case rel => exact ⟨k + 1, by omega, by omega, by go_num, G2⟩
          case measure => simp [Go.RowKit.intOf]; omega
        have do1 : decide ((on : Int) < (nl : Int)) = true := by simp; omega
        have do2 : decide ((on : Int) < 0) = false := by simp
        obtain ⟨gl, rfl, lgl, yl⟩ := ii_read HLL.out.own on (by rw [← HLL.out.len]; exact o1)
        obtain ⟨pg, hpg⟩ : ∃ pg : Nat, (pgs lf)[on]'(by rw [← HLL.out.len]; exact o1) = pg := ⟨_, rfl⟩
        rw [hpg] at yl
        have bg := Li.row_lt HLL.out.own gl rfl
        have HX6 : Hid ((∀ j, X j → X6 j) ∧ X6 gl) := ⟨fun j hj => by rw [hX6]; exact Or.inl hj, by rw [hX6]; exact Or.inr bg⟩
        have HPG : Hid (pg ∈ pgs lf) := by rw [← hpg]; exact List.getElem_mem _
        have SZ : Hid (Blk w6 B [pp rb, pp b, pp tb, .int .i64 0] 27 ∧ w6.cell? ⟨bq, oq + k, none⟩ = some (.int .i64 (on : Nat)) ∧ w6.cell? ⟨gl, on, none⟩ = some (.int .i64 (pg : Nat))) := ⟨B6.out, y6, yl⟩
        have UMC : Hid (∀ W : World, St X6 (pm0 rb b tb 140) root 0 138 2 137 s tab lf W → Calls Tryd.prog 27 #[.agg #[pp rb, pp b, pp tb, .int .i64 0], .int .i64 root, .int .i64 (pg : Nat)] W fun e w' => ∃ z : Int, e = .returned (.tuple #[.int .i64 z, .int .i64 0]) ∧ Bk X6 (pm0 rb b tb 140) root 30 (6300 + 10 * (k + 1)) w' ∧ Kx X6 W w') := fun W h => by
          have q := bk_unmap h HLQ.out.1 HLQ.out.2 (by omega) HPG.out
          rw [show 6300 + 10 * (k + 1) = 6300 + 10 * k + 10 by omega]
          exact q
        clear hpg lgl B6 HLL HLQ HPG o0 bg hX6
        go_upto_region 18 with fail
        clear yl y6 lq6
        refine wp_region_noPanic ?_
        refine wp_region_held_drew (S := fun cw => Blk cw B [pp rb, pp b, pp tb, .int .i64 0] 27 ∧ cw.cell? ⟨bq, oq + k, none⟩ = some (.int .i64 (on : Nat)) ∧ cw.cell? ⟨gl, on, none⟩ = some (.int .i64 (pg : Nat))) (by kernel_rfl) ?_ (fun hHeld => ?_)
        · exact SZ.out
        have GU : Hid (St X6 (pm0 rb b tb 140) root 0 138 2 137 s tab lf w6.drew ∧ Kx X w2 w6.drew) := ⟨st_drew S6.out.1, S6.out.2.trans (kx_drew _ _)⟩
        clear SZ S6
        generalize w6.drew = U at hHeld GU ⊢
        refine wpAnyH_take (i := 0) (oi := ⟨some 102, _, _, _, _, none⟩) (v := (.agg #[pp rb, pp b, pp tb, .int .i64 0])) rfl (by kernel_rfl) (by kernel_rfl) (by kernel_rfl) (fun _ _ _ h => h) (Or.inl ⟨by rfl, ?_⟩) (by assumption) ?_
        · intro w hSw; (try dsimp only at hSw); have r0 := Blk.cell hSw.1 0; have r1 := Blk.cell hSw.1 1; have r2 := Blk.cell hSw.1 2; have r3 := Blk.cell hSw.1 3; (try go_simp); (try simp [*])
        try simp only [Act.put, List.setIfInBounds_toArray, List.set_cons_zero, List.set_cons_succ]
        refine wpAnyH_take (i := 1) (oi := ⟨some 103, _, _, _, _, none⟩) (v := ?_) rfl (by kernel_rfl) (by kernel_rfl) (by kernel_rfl) (fun _ _ _ h => h) (Or.inl ⟨by rfl, ?_⟩) (by assumption) ?_
        rotate_left
        · intro w hSw; (try dsimp only at hSw); go_simp; (try with_reducible rfl)
        try simp only [Act.put, List.setIfInBounds_toArray, List.set_cons_zero, List.set_cons_succ]
        refine wpAnyH_take (i := 2) (oi := ⟨some 104, _, _, _, _, none⟩) (v := ?_) rfl (by kernel_rfl) (by kernel_rfl) (by kernel_rfl) (fun _ _ _ h => h) (Or.inl ⟨by rfl, ?_⟩) (by assumption) ?_
        rotate_left
        · intro w hSw; (try dsimp only at hSw); go_simp; (try with_reducible rfl)
        try simp only [Act.put, List.setIfInBounds_toArray, List.set_cons_zero, List.set_cons_succ]
        refine wpAnyH_take (i := 3) (oi := ⟨some 105, _, _, _, _, none⟩) (v := ?_) rfl (by kernel_rfl) (by kernel_rfl) (by kernel_rfl) (fun _ _ _ h => h) (Or.inl ⟨by rfl, ?_⟩) (by assumption) ?_
        rotate_left
        · intro w hSw; (try dsimp only at hSw); go_simp; (try with_reducible rfl)
        try simp only [Act.put, List.setIfInBounds_toArray, List.set_cons_zero, List.set_cons_succ]
        refine wpAnyH_take (i := 4) (oi := ⟨some 106, _, _, _, _, none⟩) (v := ?_) rfl (by kernel_rfl) (by kernel_rfl) (by kernel_rfl) (fun _ _ _ h => h) (Or.inl ⟨by rfl, ?_⟩) (by assumption) ?_
        rotate_left
        · intro w hSw; (try dsimp only at hSw); go_simp; (try with_reducible rfl)
        try simp only [Act.put, List.setIfInBounds_toArray, List.set_cons_zero, List.set_cons_succ]
        refine wpAnyH_take (i := 5) (oi := ⟨some 107, _, _, _, _, none⟩) (v := ?_) rfl (by kernel_rfl) (by kernel_rfl) (by kernel_rfl) (fun _ _ _ h => h) (Or.inl ⟨by rfl, ?_⟩) (by assumption) ?_
        rotate_left
        · intro w hSw; (try dsimp only at hSw); go_simp; (try with_reducible rfl)
        try simp only [Act.put, List.setIfInBounds_toArray, List.set_cons_zero, List.set_cons_succ]
        refine wpAnyH_take (i := 6) (oi := ⟨some 108, _, _, _, _, none⟩) (v := (.int .i64 (on : Nat))) rfl (by kernel_rfl) (by kernel_rfl) (by kernel_rfl) (fun _ _ _ h => h) (Or.inl ⟨by rfl, ?_⟩) (by assumption) ?_
        · intro w hSw; (try dsimp only at hSw); have r := hSw.2.1; (try go_simp); (try simp [*])
        try simp only [Act.put, List.setIfInBounds_toArray, List.set_cons_zero, List.set_cons_succ]
        refine wpAnyH_take (i := 7) (oi := ⟨some 109, _, _, _, _, none⟩) (v := ?_) rfl (by kernel_rfl) (by kernel_rfl) (by kernel_rfl) (fun _ _ _ h => h) (Or.inl ⟨by rfl, ?_⟩) (by assumption) ?_
        rotate_left
        · intro w hSw; (try dsimp only at hSw); go_simp; (try with_reducible rfl)
        try simp only [Act.put, List.setIfInBounds_toArray, List.set_cons_zero, List.set_cons_succ]
        refine wpAnyH_take (i := 8) (oi := ⟨some 110, _, _, _, _, none⟩) (v := (.int .i64 (pg : Nat))) rfl (by kernel_rfl) (by kernel_rfl) (by kernel_rfl) (fun _ _ _ h => h) (Or.inl ⟨by rfl, ?_⟩) (by assumption) ?_
        · intro w hSw; (try dsimp only at hSw); have r := hSw.2.2; (try go_simp); (try simp [*])
        try simp only [Act.put, List.setIfInBounds_toArray, List.set_cons_zero, List.set_cons_succ]
        refine wpAnyH_ready (rs := [9]) (by kernel_rfl) (by simp) ?_
        refine AllReadyH.cons (o := ⟨some 111, _, _, _, _, none⟩) rfl (fun K hK => ?_) AllReadyH.nil
        go_simp
        go_wp2_with (go_at_call 27; refine Calls.mono (UMC.out _ GU.out.1) ?_; rintro e u2 ⟨zz, rfl, hW, hk⟩)
        have G2 : Hid (Bk X (pm0 rb b tb 140) root 30 (6300 + 10 * (k + 1)) u2 ∧ Kx X w2 u2 ∧ Blk u2 B [pp rb, pp b, pp tb, .int .i64 0] 27) := ⟨bk_less hW HX6.out.1 XB0.out, GU.out.2.trans (hk.sub (fun j hj => HX6.out.1 j hj)), hHeld.1.kx hk (HX6.out.1 B XB.out.1)⟩
        refine hK.out _ _ ⟨hHeld.1.kx hk (HX6.out.1 B XB.out.1), (World.cell?_of_block (hk.block bq (HX6.out.1 bq XQ.out))).trans hHeld.2.1, (World.cell?_of_block (hk.block gl HX6.out.2)).trans hHeld.2.2⟩ (fun hHeld2 => ?_)
        clear hK K hHeld hW hk GU
        have hHeld := hHeld2
        clear hHeld2
        try simp only [Act.put, List.setIfInBounds_toArray, List.set_cons_zero, List.set_cons_succ]
        refine wpAnyH_take (i := 10) (oi := ⟨some 101, _, _, _, _, none⟩) (v := ?_) rfl (by kernel_rfl) (by kernel_rfl) (by kernel_rfl) (fun _ _ _ h => h) (Or.inl ⟨by rfl, ?_⟩) (by assumption) ?_
        rotate_left
        · intro w hSw; (try dsimp only at hSw); go_simp; (try with_reducible rfl)
        try simp only [Act.put, List.setIfInBounds_toArray, List.set_cons_zero, List.set_cons_succ]
        refine wpAnyH_take (i := 11) (oi := ⟨some 112, _, _, _, _, none⟩) (v := ?_) rfl (by kernel_rfl) (by kernel_rfl) (by kernel_rfl) (fun _ _ _ h => h) (Or.inl ⟨by rfl, ?_⟩) (by assumption) ?_
        rotate_left
        · intro w hSw; (try dsimp only at hSw); go_simp; (try with_reducible rfl)
        try simp only [Act.put, List.setIfInBounds_toArray, List.set_cons_zero, List.set_cons_succ]
        refine wpAnyH_take (i := 12) (oi := ⟨some 113, _, _, _, _, none⟩) (v := ?_) rfl (by kernel_rfl) (by kernel_rfl) (by kernel_rfl) (fun _ _ _ h => h) (Or.inl ⟨by rfl, ?_⟩) (by assumption) ?_
        rotate_left
        · intro w hSw; (try dsimp only at hSw); go_simp; (try with_reducible rfl)
        try simp only [Act.put, List.setIfInBounds_toArray, List.set_cons_zero, List.set_cons_succ]
        refine wpAnyH_take (i := 13) (oi := ⟨some 15, _, _, _, _, none⟩) (v := ?_) rfl (by kernel_rfl) (by kernel_rfl) (by kernel_rfl) (fun _ _ _ h => h) (Or.inl ⟨by rfl, ?_⟩) (by assumption) ?_
        rotate_left
        · intro w hSw; (try dsimp only at hSw); go_simp; (try with_reducible rfl)
        try simp only [Act.put, List.setIfInBounds_toArray, List.set_cons_zero, List.set_cons_succ]
        refine wpAnyH_take (i := 14) (oi := ⟨some 16, _, _, _, _, none⟩) (v := ?_) rfl (by kernel_rfl) (by kernel_rfl) (by kernel_rfl) (fun _ _ _ h => h) (Or.inl ⟨by rfl, ?_⟩) (by assumption) ?_
        rotate_left
        · intro w hSw; (try dsimp only at hSw); go_simp; (try with_reducible rfl)
        try simp only [Act.put, List.setIfInBounds_toArray, List.set_cons_zero, List.set_cons_succ]
        clear hHeld
        refine wpAnyH_done (by kernel_rfl) ?_ _
        refine NoPanic.normal ?_
        go_wp2_with fail
        go_roundw
        case rel => exact ⟨k + 1, by omega, by omega, by go_num, G2⟩
        case measure => simp [Go.RowKit.intOf]; omega
    case rest =>
      clear I1 HI m1
      have I2 : Hid (Bk X (pm0 rb b tb 140) root 30 6900 wc ∧ Kx X w2 wc ∧ Blk wc B [pp rb, pp b, pp tb, .int .i64 0] 27) := hcut
      clear hcut
      obtain ⟨s, tab, lf, hS, hlen, hsq⟩ := I2.out.1
      have PGC : Hid _ := hS.pages (by omega)
      have HS : Hid (St X (pm0 rb b tb 140) root 0 138 2 137 s tab lf wc) := hS
      have HLQ : Hid ((pgs lf).length ≤ 30 ∧ s.q ≤ 6900) := ⟨hlen, hsq⟩
      have K0 : Hid (Kx X w2 wc) := I2.out.2.1
      have BB : Hid (Blk wc B [pp rb, pp b, pp tb, .int .i64 0] 27) := I2.out.2.2
      have BX := BB.out
      have x0 : wc.cell? ⟨B, 0, none⟩ = some (pp rb) := BX.cell 0
      have x1 : wc.cell? ⟨B, 1, none⟩ = some (pp b) := BX.cell 1
      have x2 : wc.cell? ⟨B, 2, none⟩ = some (pp tb) := BX.cell 2
      have x3 : wc.cell? ⟨B, 3, none⟩ = some (.int .i64 0) := BX.cell 3
      have lB := BX.lt
      clear BX
      clear hS hlen hsq I2
      go_wp2_with fail
      refine Calls.mono PGC.out ?_
      rintro e w6 ⟨pf, nl, cf, rfl, hL⟩
      obtain ⟨P, hP⟩ : ∃ P, pgs lf = P := ⟨_, rfl⟩
      obtain ⟨X3, hX3⟩ : ∃ X3, X3 = XW X wc w6 := ⟨_, rfl⟩
      have J0 : Hid (Bl X3 (pm0 rb b tb 140) root P 0 6900 w6 ∧ Kx X3 w6 w6) := ⟨⟨s, tab, lf, by rw [hX3]; exact HS.out.grow hL.bel, by rw [hP]; rfl, HLQ.out.2⟩, Kept.refl _ _⟩
      have K6 : Hid (Kx X w2 w6) := K0.out.trans (Kx.of_below HS.out.pu hL.bel)
      have B6 : Hid (Blk w6 B [pp rb, pp b, pp tb, .int .i64 0] 27) := BB.out.below hL.bel
      have HLL : Hid (Listed wc w6 P pf nl cf ∧ nl ≤ 30) := ⟨by rw [← hP]; exact hL, by rw [hL.len]; exact HLQ.out.1⟩
      have HX : Hid ((∀ j, X j → X3 j) ∧ ∀ j, wc.heap.size ≤ j → j < w6.heap.size → X3 j) := ⟨fun j hj => by rw [hX3]; exact Or.inl hj, fun j a c => by rw [hX3]; exact Or.inr ⟨a, c⟩⟩
      have x30 : Hid (X3 B) := HX.out.1 B XB.out.1
      clear hL PGC HS K0 BB x0 x1 x2 x3 lB HLQ hP hX3
      go_wp2_with fail
      go_loopw [18, 19, 20, 120] (fun _ _ _ vi W => ∃ i : Nat, i ≤ nl ∧ vi = .int .i64 i ∧ Hid (Bl X3 (pm0 rb b tb 140) root P i (6900 + 10 * i) W ∧ Kx X3 w6 W)) (fun _ _ _ vi _ => nl - (Go.RowKit.intOf vi).toNat)
      case atStart => exact ⟨0, by omega, rfl, J0⟩
      case round =>
        clear J0
        obtain ⟨i, hi, rfl, HP⟩ := hrel
        have n30 := HLL.out.2
        have B7 : Hid (Blk wr B [pp rb, pp b, pp tb, .int .i64 0] 27) := B6.out.kx HP.out.2 x30.out
        by_cases ci : i < nl
        · have d1 : decide ((i : Int) < (nl : Int)) = true := by simp; omega
          have d2 : decide ((i : Int) < 0) = false := by simp
          have iP : i < P.length := by rw [← HLL.out.1.len]; exact ci
          obtain ⟨gl, rfl, lgl, yl⟩ := ii_read HLL.out.1.own i iP
          have bg := Li.row_lt HLL.out.1.own gl rfl
          have yr : wr.cell? ⟨gl, i, none⟩ = some (.int .i64 (P[i] : Nat)) := (World.cell?_of_block (HP.out.2.block gl (HX.out.2 gl bg.1 bg.2))).trans yl
          have lgr : gl < wr.heap.size := Nat.lt_of_lt_of_le lgl HP.out.2.size
          have UMC : Hid (Calls Tryd.prog 27 #[.agg #[pp rb, pp b, pp tb, .int .i64 0], .int .i64 root, .int .i64 (P[i] : Nat)] wr fun e w' => ∃ z : Int, e = .returned (.tuple #[.int .i64 z, .int .i64 0]) ∧ Bl X3 (pm0 rb b tb 140) root P (i + 1) (6900 + 10 * (i + 1)) w' ∧ Kx X3 wr w') := by
            have q := bl_unmap HP.out.1 (by omega) iP
            rw [show 6900 + 10 * (i + 1) = 6900 + 10 * i + 10 by omega]
            exact q
          generalize (P[i] : Nat) = pg at yr UMC
          have BB := B7
          have BX := BB.out
          have x0 : wr.cell? ⟨B, 0, none⟩ = some (pp rb) := BX.cell 0
          have x1 : wr.cell? ⟨B, 1, none⟩ = some (pp b) := BX.cell 1
          have x2 : wr.cell? ⟨B, 2, none⟩ = some (pp tb) := BX.cell 2
          have x3 : wr.cell? ⟨B, 3, none⟩ = some (.int .i64 0) := BX.cell 3
          have lB := BX.lt
          clear BX
          clear yl lgl bg B7 iP
          go_wp2_with fail
          refine Calls.mono UMC.out ?_
          rintro e w7 ⟨z, rfl, hB, hk⟩
          have G2 : Hid (Bl X3 (pm0 rb b tb 140) root P (i + 1) (6900 + 10 * (i + 1)) w7 ∧ Kx X3 w6 w7) := ⟨hB, HP.out.2.trans hk⟩
          clear hB hk UMC HP BB x0 x1 x2 x3 lB yr lgr
          go_wp2_with fail
          go_roundw
          case rel => exact ⟨i + 1, by omega, by go_num, G2⟩
          case measure => simp [Go.RowKit.intOf]; omega
        · have d1 : decide ((i : Int) < (nl : Int)) = false := by simp; omega
          obtain ⟨s5, tab5, lf5, hS5, he5⟩ := bl_end HP.out.1 (by rw [← HLL.out.1.len]; omega)
          have LW : Hid (Below w.heap.size w wr) := by
            have q := K6.out.trans (HP.out.2.sub (fun j hj => HX.out.1 j hj))
            exact L2.out.trans ⟨q.os, q.tape, q.output, q.size, fun j hj => q.block j (XB.out.2 j hj)⟩
          have S5 : Hid (St X3 (pm0 rb b tb 140) root 0 138 2 137 s5 tab5 lf5 wr ∧ pgs lf5 = []) := ⟨hS5, he5⟩
          have TW : Hid (Tab wr) := HT.out.below LW.out WP.out
          clear hS5 he5 HP
          go_wp2_with fail
          refine Calls.mono (AW.out wr TW.out) ?_
          rintro e w7 ⟨rfl, hb7⟩
          have S7 : Hid (St X3 (pm0 rb b tb 140) root 0 138 2 137 s5 tab5 lf5 w7 ∧ pgs lf5 = []) := ⟨S5.out.1.below hb7, S5.out.2⟩
          have BB : Hid (Blk w7 B [pp rb, pp b, pp tb, .int .i64 0] 27) := B7.out.below hb7
          have L7 : Hid (Below w.heap.size w w7) := below_then LW.out hb7
          clear hb7 S5 B7 LW TW
          have UC : Hid (Calls Tryd.prog 17 #[.agg #[pp rb, pp b, pp tb, .int .i64 0]] w7 fun e w' => e = .returned (.int .i64 3) ∧ Below w7.heap.size w7 w') := by
            have q := S7.out.1.used
            rw [S7.out.2] at q
            exact q
          have BX := BB.out
          have x0 : w7.cell? ⟨B, 0, none⟩ = some (pp rb) := BX.cell 0
          have x1 : w7.cell? ⟨B, 1, none⟩ = some (pp b) := BX.cell 1
          have x2 : w7.cell? ⟨B, 2, none⟩ = some (pp tb) := BX.cell 2
          have x3 : w7.cell? ⟨B, 3, none⟩ = some (.int .i64 0) := BX.cell 3
          have lB := BX.lt
          clear BX
          go_wp2_with fail
          refine Calls.mono UC.out ?_
          rintro e w8 ⟨rfl, hb8⟩
          have S8 : Hid (St X3 (pm0 rb b tb 140) root 0 138 2 137 s5 tab5 lf5 w8 ∧ pgs lf5 = []) := ⟨S7.out.1.below hb8, S7.out.2⟩
          have B8 : Hid (Blk w8 B [pp rb, pp b, pp tb, .int .i64 0] 27) := BB.out.below hb8
          have L8 : Hid (Below w.heap.size w w8) := below_then L7.out hb8
          clear hb8 S7 BB L7 x0 x1 x2 x3 lB UC
          have BB := B8
          clear B8
          have DC : Hid (Calls Tryd.prog 21 #[.agg #[pp rb, pp b, pp tb, .int .i64 0], .int .i64 root] w8 fun e w' => e = .returned (.int .i64 0) ∧ (Pu X3 w' (pm0 rb b tb 140) (giveS s5 0 root) ∧ Nums (pm0 rb b tb 140) (giveS s5 0 root) 0 138 2 137) ∧ Kx X3 w8 w') := by
            have q := S8.out.1.drop (by omega) S8.out.2
            exact q
          have BX := BB.out
          have x0 : w8.cell? ⟨B, 0, none⟩ = some (pp rb) := BX.cell 0
          have x1 : w8.cell? ⟨B, 1, none⟩ = some (pp b) := BX.cell 1
          have x2 : w8.cell? ⟨B, 2, none⟩ = some (pp tb) := BX.cell 2
          have x3 : w8.cell? ⟨B, 3, none⟩ = some (.int .i64 0) := BX.cell 3
          have lB := BX.lt
          clear BX
          go_wp2_with fail
          refine Calls.mono DC.out ?_
          rintro e w9 ⟨rfl, hD, hk9⟩
          have S9 : Hid (Pu X3 w9 (pm0 rb b tb 140) (giveS s5 0 root) ∧ Nums (pm0 rb b tb 140) (giveS s5 0 root) 0 138 2 137) := hD
          have B9 : Hid (Blk w9 B [pp rb, pp b, pp tb, .int .i64 0] 27) := BB.out.kx hk9 x30.out
          have L9 : Hid (Below w.heap.size w w9) := L8.out.trans ⟨hk9.os, hk9.tape, hk9.output, hk9.size, fun j hj => hk9.block j (HX.out.1 j (XB.out.2 j hj))⟩
          clear hD hk9 S8 BB L8 x0 x1 x2 x3 lB DC
          have BB := B9
          clear B9
          have UC : Hid (Calls Tryd.prog 17 #[.agg #[pp rb, pp b, pp tb, .int .i64 0]] w9 fun e w' => e = .returned (.int .i64 2) ∧ Below w9.heap.size w9 w') := by
            have q := used_n S9.out.1 S9.out.2
            exact q
          have BX := BB.out
          have x0 : w9.cell? ⟨B, 0, none⟩ = some (pp rb) := BX.cell 0
          have x1 : w9.cell? ⟨B, 1, none⟩ = some (pp b) := BX.cell 1
          have x2 : w9.cell? ⟨B, 2, none⟩ = some (pp tb) := BX.cell 2
          have x3 : w9.cell? ⟨B, 3, none⟩ = some (.int .i64 0) := BX.cell 3
          have lB := BX.lt
          clear BX
          go_wp2_with fail
          refine Calls.mono UC.out ?_
          rintro e w10 ⟨rfl, hb10⟩
          have P10 : Hid (Pu X3 w10 (pm0 rb b tb 140) (giveS s5 0 root)) := S9.out.1.below hb10
          have B10 : Hid (Blk w10 B [pp rb, pp b, pp tb, .int .i64 0] 27) := BB.out.below hb10
          have L10 : Hid (Below w.heap.size w w10) := below_then L9.out hb10
          have FC : Hid (Calls Tryd.prog 18 #[pp b] w10 fun e w' => e = .returned (.int .i64 137) ∧ w' = w10) := by
            have q := free_n P10.out S9.out.2
            exact q
          clear hb10 S9 BB L9 x0 x1 x2 x3 lB UC
          have BB := B10
          clear B10 P10
          have BX := BB.out
          have x0 : w10.cell? ⟨B, 0, none⟩ = some (pp rb) := BX.cell 0
          have x1 : w10.cell? ⟨B, 1, none⟩ = some (pp b) := BX.cell 1
          have x2 : w10.cell? ⟨B, 2, none⟩ = some (pp tb) := BX.cell 2
          have x3 : w10.cell? ⟨B, 3, none⟩ = some (.int .i64 0) := BX.cell 3
          have lB := BX.lt
          clear BX
          go_wp2_with fail
          refine Calls.mono FC.out ?_
          rintro e w11 ⟨rfl, hw11⟩
          have hw12 := hw11.symm
          subst hw12
          clear hw11 FC x0 x1 x2 x3 lB BB
          go_wp2_with fail
          go_ret
          exact ⟨rfl, L10.out⟩

set_option maxRecDepth 100000 in
theorem lifted (os : Os) (started : os.Started) (H : Type) (enc : TypeId × Value → H) :
    ReturnsInHanded {} Tryd.checked os 5 .any (fun w args => (Rows.tableBackSpec.pre enc Tryd.prog Tryd.f5 [] false w args ∧ laidMetH Tryd.prog laidL w) ∧ sizedMet enc Tryd.prog Tryd.f5 (OpenSpec.ofChange Rows.tableBackSpec) false w args)
      (Rows.tableBackSpec.post enc Tryd.prog Tryd.f5 false true false false) := by
  refine returnsInHanded_of_change_and (C := Tryd.checked) (X := fun w _ => laidMetH Tryd.prog laidL w) (fun _ _ _ hh h => h.of_heap hh) own started (by kernel_rfl) Tryd.func5
    (ChangeSpec.witness_shaped (enc := enc) (C := Tryd.checked) (os := os) (X := fun w _ => laidMetH Tryd.prog laidL w) false (World.doorLaid Tryd.prog 400 os) #[.slice none 0 0, .slice none 0 0] 8 rfl (World.shaped_of_RefB (by kernel_rfl) (by kernel_rfl)) (by kernel_rfl) (by kernel_rfl) (by kernel_rfl) (door_met os _)) ?_
  intro W base args ds gs before hval0 hW _ _ hL _
  have hval : ∀ (j : Nat) t v, Tryd.f5.params[j]? = some t → args[j]? = some v → Value.okWide Tryd.prog W .any base t v := hval0
  have hW' := hW
  obtain ⟨p, q, hA0, hV, hbef, hfz, hnd⟩ := hW
  have hA : DataW.TrodAll enc Tryd.prog W 0 (fun _ => true) true Tryd.f5.params.toList args.toList ds p := hA0
  have hAk := hA
  have hlt : ∀ x ∈ p, x.block < W.heap.size := fun x hx => hW'.lt x (by rw [hbef]; exact List.mem_append_left _ hx)
  rw [Tryd.params5] at hA hval
  obtain ⟨v0, vs0, d0, ds0, p0, q0, hargs, rfl, hp0, h0, r0⟩ := trodAll_cons hA
  obtain ⟨v1, vs1, d1, ds1, p1, q1, rfl, rfl, hp1, h1, r1⟩ := trodAll_cons r0
  obtain ⟨rfl, rfl, hpz⟩ := trodAll_nil r1
  obtain rfl : args = #[v0, v1] := by cases args; simp_all
  obtain ⟨rfl, rfl⟩ := trodVars_none hV
  obtain ⟨p0, n0, c0, A0, rfl, m0, H0⟩ := open_acts (hval 0 22 v0 rfl rfl) h0
  obtain ⟨p1, n1, c1, A1, rfl, m1, H1⟩ := open_ints (hval 1 44 v1 rfl rfl) h1
  clear hA0 hval0
  refine (walk p0 n0 c0 A0 m0 p1 n1 c1 A1 m1 W (of_laid hL) H0 H1).mono fun e W' ⟨he, hg⟩ => ?_
  subst he
  exact ⟨_, rfl, ⟨_, _, _, [], p, [], hW', (trodAll_cons_mk (shut_bool Tryd.underlying4 _) trodAll_mk0), args_stay laidOut hg (by kernel_rfl) hAk hlt, rfl, hg.frame _, fun h => by cases h⟩⟩

theorem over : Rows.tableBackRow.holds Tryd.pinned (OpenSpec.ofChange Rows.tableBackSpec) :=
  OpenClaim.holds_of_wide 5 Tryd.f5 rfl rfl rfl rfl rfl rfl rfl ⟨rfl, rfl, rfl, rfl, rfl⟩ rfl rfl rfl rfl rfl (by kernel_rfl) Tryd.func5 (by kernel_rfl)
    (of_decide_eq_true (by kernel_rfl)) (by unfold Func.isWrapper; first | (rw [if_pos (by decide +kernel)]; kernel_rfl) | (rw [if_neg (by decide +kernel)]; exact ⟨rfl, rfl⟩))
    (fun os started H enc _ => lifted os started H enc)

theorem proved : Rows.TableBackCardSaid :=
  Claim7.holds_tied_plain_at .later [] [.data] true (true, "64c8694732dce4494ae4c7601e39c35f2573908f76922d47bdd02e269d73e0bb") true
    over (fun _ h => by cases h) (by kernel_rfl) (fun _ h => by cases h) tableBack_row_tie rfl ⟨rfl, rfl⟩ (by kernel_rfl) rfl
    (fun f fn hf hfn => by
      obtain rfl : f = 5 := Option.some.inj ((show Tryd.prog.funcNamed "demesne/demesnelaw09.TableBack" = some 5 by kernel_rfl).symm.trans hf) |>.symm
      obtain rfl : fn = Tryd.f5 := (Option.some.inj (Tryd.func5.symm.trans hfn)).symm
      exact ⟨by kernel_rfl, fun j t ht => by
        rw [Tryd.params5] at ht
        have hm : t ∈ [22, 44] := by simpa using Array.mem_of_getElem? ht
        have hall : ([22, 44].all fun u => !Tryd.prog.wantsStandIn u) = true := by kernel_rfl
        exact (show Tryd.prog.wantsStandIn t = false by simpa using List.all_eq_true.1 hall t hm)⟩)
    (by kernel_rfl)
#print axioms proved
end Go.Proofs.YtkiclbnbnjbcaaaDoor.tableBack
