/- TableApart: what is done with one root's pages changes nothing of another one's. No condition. -/
import Derived.Test.YtkiclbnbnjbcaaaDoorRows
import Derived.Test.YtkiclbnbnjbcaaaDoorCards
import Derived.Test.YtkiclbnbnjbcaaaDoorTie
import Derived.ProofKit
import Derived.OpenShut
import Derived.Stop.Joined
import Derived.SevenTiedAt
import Derived.Test.YtkiclbnbnjbcaaaDoorMJ
namespace Go.Proofs.YtkiclbnbnjbcaaaDoor.tableApart
open Go.ChangeShapes Go.WideShapes Go.ChangeAt Go.RowKit
set_option linter.unusedSimpArgs false
set_option linter.unusedVariables false
open Go.Proofs.YtkiclbnbnjbcaaaDoor.Tt
set_option maxRecDepth 8000
theorem below_dr (W : World) : Below W.heap.size W W.drew := ⟨rfl, rfl, rfl, Nat.le_refl _, fun _ _ => rfl⟩
theorem kx_drew (X : Nat → Prop) (W : World) : Kx X W W.drew := ⟨rfl, rfl, rfl, Nat.le_refl _, fun _ _ => rfl⟩
theorem blk_of_cell {w : World} {bq o : Nat} {v : Value} (h : w.cell? ⟨bq, o, none⟩ = some v) : bq < w.heap.size := lt_of_cell h
theorem two_drew {m : Pm} {ra rc na nc q : Nat} {Y : Nat → Prop} {v : Value} {W : World} (h : Two m ra rc na nc q Y v W) : Two m ra rc na nc q Y v W.drew := h.below (below_dr W)

set_option maxHeartbeats 8000000 in
theorem walk (p0 : Option Addr) (n0 c0 : Nat) (A0 : Nat → Ac) (m0 : n0 ≤ maxLen) (p1 : Option Addr) (n1 c1 : Nat) (A1 : Nat → Ac) (m1 : n1 ≤ maxLen) (w : World) (ht : Tab w) (H0 : IsActs w p0 n0 A0) (H1 : IsActs w p1 n1 A1) :
    Calls Tryd.prog 6 #[.slice p0 n0 c0, .slice p1 n1 c1] w fun e w' => e = .returned (.bool true) ∧ Below w.heap.size w w' := by
  have AW : Hid (∀ W : World, Tab W → Calls Tryd.prog 10 #[] W fun e w' => e = .returned (.bool true) ∧ Below W.heap.size W w') := fun W t => awake_any W t
  have HT : Hid (Tab w) := ht
  have WP : Hid (0 < w.heap.size) := ht.1
  have HA : Hid (IsActs w p0 n0 A0) := H0
  have HA1 : Hid (IsActs w p1 n1 A1) := H1
  have PC : Hid _ := purse_ok w ht 200 200 (by omega) (by omega) (by omega) (by omega)
  clear ht H0 H1
  go_enter Tryd.func6, Tryd.ntmps6
  go_wp2_with fail
  refine Calls.mono PC.out ?_
  rintro e w1 ⟨rb, b, tb, rfl, hp1, hb1⟩
  obtain ⟨X, hX⟩ : ∃ X : Nat → Prop, X = XW (fun j => j < w.heap.size) w1 (w1.alloc (.cells #[pp rb, pp b, pp tb, .int .i64 0] 27)) := ⟨_, rfl⟩
  have F2 : Hid (Pu X (w1.alloc (.cells #[pp rb, pp b, pp tb, .int .i64 0] 27)) (pm0 rb b tb 200) (ps0 (from1 200) 200) ∧ Blk (w1.alloc (.cells #[pp rb, pp b, pp tb, .int .i64 0] 27)) w1.heap.size [pp rb, pp b, pp tb, .int .i64 0] 27 ∧ X w1.heap.size ∧ (∀ j, j < w.heap.size → X j) ∧ Below w.heap.size w (w1.alloc (.cells #[pp rb, pp b, pp tb, .int .i64 0] 27)) ∧ w.heap.size ≤ w1.heap.size) := by
    refine ⟨by rw [hX]; exact hp1.grow (Go.Joins.below_alloc1 _ _), Blk.made w1 [pp rb, pp b, pp tb, .int .i64 0] 27, by rw [hX]; exact Or.inr ⟨Nat.le_refl _, by rw [World.size_alloc]; omega⟩, fun j hj => by rw [hX]; exact Or.inl hj, below_then hb1 (Go.Joins.below_alloc1 _ _), hb1.size⟩
  clear hp1 hb1 hX PC
  go_upto_region 2 with fail
  generalize (w1.alloc (.cells #[pp rb, pp b, pp tb, .int .i64 0] 27)) = w2 at F2 ⊢
  generalize w1.heap.size = B at F2 ⊢
  have XB : Hid (X B ∧ (∀ j, j < w.heap.size → X j)) := ⟨F2.out.2.2.1, F2.out.2.2.2.1⟩
  have L2 : Hid (Below w.heap.size w w2) := F2.out.2.2.2.2.1
  have BL : Hid (w.heap.size ≤ B) := F2.out.2.2.2.2.2
  have BB : Hid (Blk w2 B [pp rb, pp b, pp tb, .int .i64 0] 27) := F2.out.2.1
  have P0 : Hid (Pu X w2 (pm0 rb b tb 200) (ps0 (from1 200) 200)) := F2.out.1
  have N0 : Hid (Nums (pm0 rb b tb 200) (ps0 (from1 200) 200) 0 200 0 199) := nums0 (pm0 rb b tb 200) 200 200 (by omega) (by omega)
  clear F2
  have KC : Hid (Calls Tryd.prog 11 #[.agg #[pp rb, pp b, pp tb, .int .i64 0]] w2 fun e w' => ∃ (L : List Nat) (kf : Nat), e = .returned (.tuple #[.int .i64 kf, .int .i64 0]) ∧ (L.length = 2 ∧ InL (ps0 (from1 200) 200) L ∧ kf ∈ L) ∧ Wrote X w2 (pm0 rb b tb 200) (ps0 (from1 200) 200) 0 L w') := by
    refine (kernel_ok P0.out (by show (1 : Int) ≤ 200; omega) 0 (N0.out.box (by omega)) (by show 0 < _; omega) (by rw [N0.out.room]; show 1 + ((200 : Int) + 262143) / 262144 ≤ 200; omega)).mono ?_
    rintro e w' ⟨L, kf, he, ⟨h1, h2⟩, hw⟩
    have h1' : (L.length : Int) = 1 + ((200 : Int) + 262143) / 262144 := h1
    exact ⟨L, kf, he, ⟨by omega, h2⟩, hw⟩
  have BX := BB.out
  have x0 : w2.cell? ⟨B, 0, none⟩ = some (pp rb) := BX.cell 0
  have x1 : w2.cell? ⟨B, 1, none⟩ = some (pp b) := BX.cell 1
  have x2 : w2.cell? ⟨B, 2, none⟩ = some (pp tb) := BX.cell 2
  have x3 : w2.cell? ⟨B, 3, none⟩ = some (.int .i64 0) := BX.cell 3
  have lB := BX.lt
  clear BX
  go_wp2_with fail
  refine Calls.mono KC.out ?_
  rintro e w3 ⟨L, kf, rfl, ⟨hl, IN, hkf⟩, M3, hp3, hk3, ho3⟩
  have B3 : Hid (Blk w3 B [pp rb, pp b, pp tb, .int .i64 0] 27) := BB.out.kx hk3 XB.out.1
  have K3 : Hid (Kx X w2 w3 ∧ kf < 1048576) := ⟨hk3, by have := P0.out.so.frb kf (IN.2 kf hkf); omega⟩
  have N3 : Hid (Nums (pm0 rb b tb 200) _ 0 (200 - L.length) (0 + L.length) (199 - L.length)) := N0.out.take P0.out.so IN M3 (0 + 5000)
  obtain ⟨s3, hs3⟩ : ∃ s3 : Ps, s3 = { takeS (ps0 (from1 200) 200) 0 L with M := M3, q := 0 + 5000 } := ⟨_, rfl⟩
  have P3 : Hid (Pu X w3 (pm0 rb b tb 200) s3 ∧ s3.q = 5000) := by rw [hs3]; exact ⟨hp3, rfl⟩
  have N3' : Hid (Nums (pm0 rb b tb 200) s3 0 198 2 197) := by have q := N3.out; rw [← hs3, hl] at q; exact q
  skip
  clear hs3 hl IN hkf hp3 hk3 ho3 BB N0 P0 N3
  have BB := B3
  clear B3
  clear x0 x1 x2 x3 lB KC
  have KF : Hid (kf < 1048576) := K3.out.2
  have RC : Hid (Calls Tryd.prog 13 #[.agg #[pp rb, pp b, pp tb, .int .i64 0], .int .i64 kf] w3 fun e w' => ∃ root : Nat, e = .returned (.tuple #[.int .i64 root, .int .i64 0]) ∧ Rooted X w3 (pm0 rb b tb 200) s3 0 root w') := root_ok P3.out.1 0 (N3'.out.box (by omega)) (by rw [P3.out.2]; omega) (by rw [N3'.out.room]; omega) kf K3.out.2
  have BX := BB.out
  have x0 : w3.cell? ⟨B, 0, none⟩ = some (pp rb) := BX.cell 0
  have x1 : w3.cell? ⟨B, 1, none⟩ = some (pp b) := BX.cell 1
  have x2 : w3.cell? ⟨B, 2, none⟩ = some (pp tb) := BX.cell 2
  have x3 : w3.cell? ⟨B, 3, none⟩ = some (.int .i64 0) := BX.cell 3
  have lB := BX.lt
  clear BX
  go_wp2_with fail
  refine Calls.mono RC.out ?_
  rintro e w4 ⟨root, rfl, M4, hF, hp4, hk4, hz4, _⟩
  have B4 : Hid (Blk w4 B [pp rb, pp b, pp tb, .int .i64 0] 27) := BB.out.kx hk4 XB.out.1
  have K4 : Hid (Kx X w2 w4) := K3.out.1.trans hk4
  have IN4 : InL s3 [root] := ⟨by simp, fun p hp => by simp at hp; subst hp; exact hF⟩
  have N4' : Nums (pm0 rb b tb 200) _ 0 (198 - ([root] : List Nat).length) (2 + ([root] : List Nat).length) (197 - ([root] : List Nat).length) := N3'.out.take P3.out.1.so IN4 M4 (s3.q + 2)
  have R4' : Rt (pm0 rb b tb 200) _ root (tab1 root) (fun _ => none) := rt_root (k := 0) (q := s3.q + 2) P3.out.1.so hF hz4
  obtain ⟨s4, hs4⟩ : ∃ s4 : Ps, s4 = { takeS s3 0 [root] with M := M4, q := s3.q + 2 } := ⟨_, rfl⟩
  rw [← hs4] at N4' R4' hp4
  have N4 : Hid (Nums (pm0 rb b tb 200) s4 0 197 3 196) := N4'
  have R4 : Hid (Rt (pm0 rb b tb 200) s4 root (tab1 root) (fun _ => none)) := R4'
  have P4 : Hid (Pu X w4 (pm0 rb b tb 200) s4 ∧ s4.q ≤ 6000) := ⟨hp4, by rw [hs4]; show s3.q + 2 ≤ 6000; have := P3.out.2; omega⟩
  clear hF hp4 hk4 hz4 IN4 N4' R4' BB K3 P3 N3' hs4
  have BB := B4
  clear B4
  clear x0 x1 x2 x3 lB RC
  have RC2 : Hid (Calls Tryd.prog 13 #[.agg #[pp rb, pp b, pp tb, .int .i64 0], .int .i64 kf] w4 fun e w' => ∃ root : Nat, e = .returned (.tuple #[.int .i64 root, .int .i64 0]) ∧ Rooted X w4 (pm0 rb b tb 200) s4 0 root w') := by
    have q := root_ok P4.out.1 0 (N4.out.box (by omega)) (by have := P4.out.2; omega) (by rw [N4.out.room]; omega) kf KF.out
    exact q
  have BX := BB.out
  have x0 : w4.cell? ⟨B, 0, none⟩ = some (pp rb) := BX.cell 0
  have x1 : w4.cell? ⟨B, 1, none⟩ = some (pp b) := BX.cell 1
  have x2 : w4.cell? ⟨B, 2, none⟩ = some (pp tb) := BX.cell 2
  have x3 : w4.cell? ⟨B, 3, none⟩ = some (.int .i64 0) := BX.cell 3
  have lB := BX.lt
  clear BX
  go_wp2_with fail
  refine Calls.mono RC2.out ?_
  rintro e w5 ⟨rc, rfl, M5, hF5, hp5, hk5, hz5, ho5⟩
  have IN5 : InL s4 [rc] := ⟨by simp, fun p hp => by simp at hp; subst hp; exact hF5⟩
  have N5 := N4.out.take P4.out.1.so IN5 M5 (s4.q + 2)
  obtain ⟨tw5, ne5⟩ := tw_start hp5 R4.out P4.out.1.so hF5 hz5 ho5 N5
  have I5 : Hid (Two (pm0 rb b tb 200) root rc 0 0 7000 X (.slice none 0 0) w5 ∧ Kx X w2 w5) := ⟨⟨_, _, _, _, _, tw5, ⟨none, 0, by rw [lvs_none]; rfl, ⟨fun i hi => (by rw [lvs_none] at hi; exact absurd hi (Nat.not_lt_zero _)), fun q u e => (by cases e), (by rw [pgs_none]; simp)⟩, fun g o z e => (by cases e)⟩, by rw [pgs_none]; simp, by rw [pgs_none]; simp, by show s4.q + 2 ≤ 7000; have := P4.out.2; omega⟩, K4.out.trans hk5⟩
  have B5 : Hid (Blk w5 B [pp rb, pp b, pp tb, .int .i64 0] 27) := BB.out.kx hk5 XB.out.1
  have ne1 : ((root : Int) == (rc : Int)) = false := by simp; omega
  have ne2 : ¬ root = rc := ne5
  clear hF5 hp5 hk5 hz5 ho5 IN5 N5 tw5 ne5 RC2 P4 R4 N4 K4 BB x0 x1 x2 x3 lB KF
  have BB := B5
  clear B5
  have DC : Hid (Calls Tryd.prog 14 #[.agg #[pp rb, pp b, pp tb, .int .i64 0], .int .i64 root, .slice none 0 0, .agg #[.int .i64 4, .int .i64 0, .int .i64 0, .bool false, .bool false, .bool false], .int .i64 100] w5 fun e w' => ∃ v', e = .returned (.tuple #[v', .bool true]) ∧ (∃ Y' : Nat → Prop, (∀ j, X j → Y' j) ∧ Two (pm0 rb b tb 200) root rc (0 + 1) 0 (7000 + 10) Y' v' w') ∧ Kx X w5 w') := by
    have q := two_does I5.out.1 (by omega) (by omega) (by omega) 4 0 0 false false false
    exact q
  have BX := BB.out
  have x0 : w5.cell? ⟨B, 0, none⟩ = some (pp rb) := BX.cell 0
  have x1 : w5.cell? ⟨B, 1, none⟩ = some (pp b) := BX.cell 1
  have x2 : w5.cell? ⟨B, 2, none⟩ = some (pp tb) := BX.cell 2
  have x3 : w5.cell? ⟨B, 3, none⟩ = some (.int .i64 0) := BX.cell 3
  have lB := BX.lt
  clear BX
  go_wp2_with fail
  refine Calls.mono DC.out ?_
  rintro e w6 ⟨v0, rfl, ⟨Y0, hY0, hT6⟩, hk6⟩
  have J0 : Hid (∃ Y : Nat → Prop, ((∀ j, X j → Y j) ∧ Kx X w2 w6 ∧ Blk w6 B [pp rb, pp b, pp tb, .int .i64 0] 27) ∧ Two (pm0 rb b tb 200) root rc (1 + 0) 0 (7010 + 40 * 0) Y v0 w6) := ⟨Y0, ⟨hY0, I5.out.2.trans hk6, BB.out.kx hk6 XB.out.1⟩, hT6⟩
  clear hY0 hT6 hk6 I5 BB DC x0 x1 x2 x3 lB ne1 ne2
  go_wp2_with fail
  go_loopw [6, 13, 15, 16, 17] (fun vk vl vi _ _ W => ∃ i : Nat, i ≤ 20 ∧ vi = .int .i64 i ∧ vk = .bool true ∧ Hid (∃ Y : Nat → Prop, ((∀ j, X j → Y j) ∧ Kx X w2 W ∧ Blk W B [pp rb, pp b, pp tb, .int .i64 0] 27) ∧ Two (pm0 rb b tb 200) root rc (1 + i) i (7010 + 40 * i) Y vl W)) (fun _ _ vi _ _ _ => 20 - (Go.RowKit.intOf vi).toNat)
  case atStart => exact ⟨0, by omega, rfl, rfl, J0⟩
  case round =>
    clear J0
    obtain ⟨i, hi, rfl, rfl, HP⟩ := hrel
    by_cases ci : i < 20
    rotate_left
    · have d0 : decide ((i : Int) < 20) = false := by simp; omega
      have i20 : i ≤ 20 := hi
      have HPo := HP.out
      obtain ⟨Y, hSd, s, ta, la, tc, lc, hTw, hLs, hna, hnc, hsq⟩ := HPo
      have HS : Hid ((∀ j, X j → Y j) ∧ Kx X w2 wr ∧ Blk wr B [pp rb, pp b, pp tb, .int .i64 0] 27) := hSd
      have HTW : Hid (Tw Y (pm0 rb b tb 200) root rc 0 198 2 197 s ta la tc lc wr ∧ (pgs la).length ≤ 21) := ⟨hTw, by omega⟩
      obtain ⟨p, c, hv, hl, hg⟩ := hLs
      subst hv
      have HL : Hid (Ld wr la p) := hl
      have LW : Hid (Below w.heap.size w wr) := by
        have q := HS.out.2.1
        exact L2.out.trans ⟨q.os, q.tape, q.output, q.size, fun j hj => q.block j (XB.out.2 j hj)⟩
      obtain ⟨ln, hln⟩ : ∃ ln, (lvs la).length = ln := ⟨_, rfl⟩
      have HLN : Hid ((lvs la).length = ln) := hln
      rw [hln]
      have wb : wr.heap.size ≤ wr.heap.size := Nat.le_refl _
      have lnb : ln ≤ 21 := by rw [← hln, lvs_len]; omega
      clear hi i20
      clear hSd hTw hl hg hna hnc hsq HP hln wb
      have XBY : Hid (Y B) := HS.out.1 B XB.out.1
      obtain ⟨w0, hw0⟩ : ∃ w0, w0 = wr := ⟨_, rfl⟩
      rw [← hw0] at HS HTW HL LW
      have Z0 : Hid (Below w0.heap.size w0 wr) := by rw [hw0]; exact Below.refl _ _
      clear hw0
      go_wp2_with fail
      go_loopw [6, 19, 20, 21, 22, 131] (fun vk _ _ _ _ vj W => ∃ j : Nat, j ≤ ln ∧ vj = .int .i64 j ∧ vk = .bool true ∧ Hid (Below w0.heap.size w0 W)) (fun _ _ _ _ _ vj _ => ln - (Go.RowKit.intOf vj).toNat)
      case atStart => exact ⟨0, by omega, rfl, rfl, Z0⟩
      case round =>
        clear Z0
        obtain ⟨j, hj, rfl, rfl, HZ⟩ := hrel
        have BB : Hid (Blk wr B [pp rb, pp b, pp tb, .int .i64 0] 27) := HS.out.2.2.below HZ.out
        by_cases cj : j < ln
        · have e0 : decide ((j : Int) < (ln : Int)) = true := by simp; omega
          have e1 : (0 : Int) ≤ (j : Int) := by omega
          have e2 : (j : Int) < (ln : Int) := by omega
          have e3 : decide ((j : Int) < 0) = false := by simp
          obtain ⟨g, rfl, lg, gc⟩ := (HL.out.is.below HZ.out) j (by rw [HLN.out]; exact cj)
          obtain ⟨xx, hxx⟩ : ∃ xx, (lvs la)[j]'(by rw [HLN.out]; exact cj) = xx := ⟨_, rfl⟩
          have mx : la xx.1 = some xx.2 := (lvs_mem HL.out.bd xx).1 (by rw [← hxx]; exact List.getElem_mem _)
          rw [hxx] at gc
          clear hxx
          obtain ⟨pn, qf, qw, qu, qx⟩ := xx
          have y0 : wr.cell? ⟨g, j * 5, none⟩ = some (.int .i64 (pn : Nat)) := gc 0 _ rfl
          have y1 : wr.cell? ⟨g, j * 5 + 1, none⟩ = some (.int .i64 qf) := gc 1 _ rfl
          have y2 : wr.cell? ⟨g, j * 5 + 2, none⟩ = some (.bool qw) := gc 2 _ rfl
          have y3 : wr.cell? ⟨g, j * 5 + 3, none⟩ = some (.bool qu) := gc 3 _ rfl
          have y4 : wr.cell? ⟨g, j * 5 + 4, none⟩ = some (.bool qx) := gc 4 _ rfl
          clear gc
          have HB1 : Hid (Below w0.heap.size w0 (wr.alloc (.cells #[.int .i64 (pn : Nat), .int .i64 qf, .bool qw, .bool qu, .bool qx] 63)) ∧ Blk (wr.alloc (.cells #[.int .i64 (pn : Nat), .int .i64 qf, .bool qw, .bool qu, .bool qx] 63)) B [pp rb, pp b, pp tb, .int .i64 0] 27 ∧ Blk (wr.alloc (.cells #[.int .i64 (pn : Nat), .int .i64 qf, .bool qw, .bool qu, .bool qx] 63)) wr.heap.size [.int .i64 (pn : Nat), .int .i64 qf, .bool qw, .bool qu, .bool qx] 63) := ⟨below_new HZ.out _, BB.out.below (Go.Joins.below_alloc1 _ _), Blk.made wr [.int .i64 (pn : Nat), .int .i64 qf, .bool qw, .bool qu, .bool qx] 63⟩
          have QC : Hid (Calls Tryd.prog 28 #[.agg #[pp rb, pp b, pp tb, .int .i64 0], .int .i64 root, .int .i64 (pn : Int)] (wr.alloc (.cells #[.int .i64 (pn : Nat), .int .i64 qf, .bool qw, .bool qu, .bool qx] 63)) fun e w' => e = .returned (.tuple #[.int .i64 qf, .agg #[.bool qw, .bool qu, .bool qx], .bool true]) ∧ Below (wr.alloc (.cells #[.int .i64 (pn : Nat), .int .i64 qf, .bool qw, .bool qu, .bool qx] 63)).heap.size (wr.alloc (.cells #[.int .i64 (pn : Nat), .int .i64 qf, .bool qw, .bool qu, .bool qx] 63)) w') := by
            have q := query_any (HTW.out.1.pu.below HB1.out.1) HTW.out.1.a 0 pn
            rw [mx] at q
            exact q
          clear mx
          go_upto_region 25 with fail
          clear y0 y1 y2 y3 y4 BB HZ
          generalize (wr.alloc (.cells #[.int .i64 (pn : Nat), .int .i64 qf, .bool qw, .bool qu, .bool qx] 63)) = U at HB1 QC ⊢
          generalize wr.heap.size = yb at HB1 ⊢
          have BB : Hid (Blk U B [pp rb, pp b, pp tb, .int .i64 0] 27) := HB1.out.2.1
          have YB : Hid (Blk U yb [.int .i64 (pn : Nat), .int .i64 qf, .bool qw, .bool qu, .bool qx] 63) := HB1.out.2.2
          have z0 : U.cell? ⟨yb, 0, none⟩ = some (.int .i64 (pn : Nat)) := Blk.cell YB.out 0
          have lz := YB.out.lt
          have BX := BB.out
          have x0 : U.cell? ⟨B, 0, none⟩ = some (pp rb) := BX.cell 0
          have x1 : U.cell? ⟨B, 1, none⟩ = some (pp b) := BX.cell 1
          have x2 : U.cell? ⟨B, 2, none⟩ = some (pp tb) := BX.cell 2
          have x3 : U.cell? ⟨B, 3, none⟩ = some (.int .i64 0) := BX.cell 3
          have lB := BX.lt
          clear BX
          go_wp2_with fail
          refine Calls.mono QC.out ?_
          rintro e u2 ⟨rfl, hb2⟩
          have F6 : Hid (Below w0.heap.size w0 (u2.alloc (.cells #[.bool qw, .bool qu, .bool qx] 40)) ∧ Blk (u2.alloc (.cells #[.bool qw, .bool qu, .bool qx] 40)) yb [.int .i64 (pn : Nat), .int .i64 qf, .bool qw, .bool qu, .bool qx] 63 ∧ Blk (u2.alloc (.cells #[.bool qw, .bool qu, .bool qx] 40)) u2.heap.size [.bool qw, .bool qu, .bool qx] 40) := ⟨below_new (HB1.out.1.trans (Go.Joins.below_le hb2 HB1.out.1.size)) _, (YB.out.below hb2).below (Go.Joins.below_alloc1 _ _), Blk.made u2 [.bool qw, .bool qu, .bool qx] 40⟩
          clear hb2 HB1 QC BB YB z0 lz x0 x1 x2 x3 lB
          go_upto_region 26 with fail
          generalize (u2.alloc (.cells #[.bool qw, .bool qu, .bool qx] 40)) = u3 at F6 ⊢
          generalize u2.heap.size = mb at F6 ⊢
          have z1 : u3.cell? ⟨yb, 1, none⟩ = some (.int .i64 qf) := Blk.cell F6.out.2.1 1
          have z2 : u3.cell? ⟨yb, 2, none⟩ = some (.bool qw) := Blk.cell F6.out.2.1 2
          have z3 : u3.cell? ⟨yb, 3, none⟩ = some (.bool qu) := Blk.cell F6.out.2.1 3
          have z4 : u3.cell? ⟨yb, 4, none⟩ = some (.bool qx) := Blk.cell F6.out.2.1 4
          have z5 : u3.cell? ⟨mb, 0, none⟩ = some (.bool qw) := Blk.cell F6.out.2.2 0
          have z6 : u3.cell? ⟨mb, 1, none⟩ = some (.bool qu) := Blk.cell F6.out.2.2 1
          have z7 : u3.cell? ⟨mb, 2, none⟩ = some (.bool qx) := Blk.cell F6.out.2.2 2
          have l1 := F6.out.2.1.lt
          have l2 := F6.out.2.2.lt
          have eq := eqPermS9
          have q5 : (qf == qf) = true := by simp
          have HZ : Hid (Below w0.heap.size w0 u3) := F6.out.1
          clear F6
          go_wp2_with fail
          go_roundw
          case rel => exact ⟨j + 1, by omega, by go_num, rfl, HZ⟩
          case measure => simp [Go.RowKit.intOf]; omega
        · obtain rfl : j = ln := by omega
          have e0 : decide ((j : Int) < (j : Int)) = false := by simp
          have LWr : Hid (Below w.heap.size w wr) := LW.out.trans (Go.Joins.below_le HZ.out LW.out.size)
          have TW : Hid (Tab wr) := HT.out.below LWr.out WP.out
          go_wp2_with fail
          refine Calls.mono (AW.out wr TW.out) ?_
          rintro e u1 ⟨rfl, hb1⟩
          have HZ1 : Hid (Below w0.heap.size w0 u1) := HZ.out.trans (Go.Joins.below_le hb1 HZ.out.size)
          have L1 : Hid (Below w.heap.size w u1) := below_then LWr.out hb1
          have B1 : Hid (Blk u1 B [pp rb, pp b, pp tb, .int .i64 0] 27) := BB.out.below hb1
          clear hb1 HZ LWr TW BB
          have BB := B1
          clear B1
          have PGC : Hid (Calls Tryd.prog 20 #[.agg #[pp rb, pp b, pp tb, .int .i64 0], .int .i64 root] u1 fun e w' => ∃ (pf : Option Addr) (cf : Nat), e = .returned (.slice pf j cf) ∧ Below u1.heap.size u1 w') := by
            have q := pages_any (HTW.out.1.pu.below HZ1.out) HTW.out.1.a 0 (by have := HTW.out.2; omega)
            refine Calls.mono q ?_
            rintro e w' ⟨pf, n, cf, rfl, hL⟩
            have hn := hL.len
            rw [← lvs_len, HLN.out] at hn
            subst hn
            exact ⟨pf, cf, rfl, hL.bel⟩
          have BX := BB.out
          have x0 : u1.cell? ⟨B, 0, none⟩ = some (pp rb) := BX.cell 0
          have x1 : u1.cell? ⟨B, 1, none⟩ = some (pp b) := BX.cell 1
          have x2 : u1.cell? ⟨B, 2, none⟩ = some (pp tb) := BX.cell 2
          have x3 : u1.cell? ⟨B, 3, none⟩ = some (.int .i64 0) := BX.cell 3
          have lB := BX.lt
          clear BX
          go_wp2_with fail
          refine Calls.mono PGC.out ?_
          rintro e u2 ⟨pf, cf, rfl, hb2⟩
          have L2' : Hid (Below w.heap.size w u2) := below_then L1.out hb2
          have q5 : ((j : Int) == (j : Int)) = true := by simp
          clear hb2 PGC BB x0 x1 x2 x3 lB L1 HZ1
          go_wp2_with fail
          go_ret
          exact ⟨by simp, L2'.out⟩
    have d0 : decide ((i : Int) < 20) = true := by simp; omega
    have d1 : decide ((i : Int) < 0) = false := by simp
    go_upto_if 76 with fail
    go_cut [6, 13, 16, 17] (fun vk vl _ _ wx => vk = .bool true ∧ Hid (∃ Y : Nat → Prop, ((∀ j, X j → Y j) ∧ Kx X w2 wx ∧ Blk wx B [pp rb, pp b, pp tb, .int .i64 0] 27) ∧ Two (pm0 rb b tb 200) root rc (2 + i) i (7020 + 40 * i) Y vl wx))
    case first =>
      have HPo := HP.out
      obtain ⟨Y, hSd, hTw⟩ := HPo
      have HS : Hid ((∀ j, X j → Y j) ∧ Kx X w2 wr ∧ Blk wr B [pp rb, pp b, pp tb, .int .i64 0] 27) := hSd
      have HT2 : Hid (Two (pm0 rb b tb 200) root rc (1 + i) i (7010 + 40 * i) Y u13 wr) := hTw
      clear hSd hTw HP
      by_cases hlt : i < n0
      rotate_left
      · have hd : decide ((i : Int) < (n0 : Int)) = false := by simp; omega
        have HE : Hid (∃ Y : Nat → Prop, ((∀ j, X j → Y j) ∧ Kx X w2 wr ∧ Blk wr B [pp rb, pp b, pp tb, .int .i64 0] 27) ∧ Two (pm0 rb b tb 200) root rc (2 + i) i (7020 + 40 * i) Y u13 wr) := ⟨Y, HS.out, HT2.out.mono (by omega) (by omega) (by omega)⟩
        clear HS HT2
        go_wp2_with fail
        go_meet
        exact ⟨rfl, HE⟩
      · have hd : decide ((i : Int) < (n0 : Int)) = true := by simp; omega
        have LW : Hid (Below w.heap.size w wr) := by
          have q := HS.out.2.1
          exact L2.out.trans ⟨q.os, q.tape, q.output, q.size, fun j hj => q.block j (XB.out.2 j hj)⟩
        obtain ⟨bq, oq, rfl, lq, y0, y1, y2, y3, y4, y5, gx⟩ := (HA.out.below LW.out) i hlt
        have XQ : Hid (Y bq) := by
          obtain ⟨b', o', e', l', _⟩ := HA.out i hlt
          cases e'
          exact HS.out.1 _ (XB.out.2 _ l')
        have XB4 : Hid (Y B) := HS.out.1 B XB.out.1
        generalize A0 i = st at y0 y1 y2 y3 y4 y5 gx
        obtain ⟨kd, pg, fg, qa, qb, qc⟩ := st
        simp only at y0 y1 y2 y3 y4 y5 gx
        have SZ : Hid ((fun cw => Blk cw B [pp rb, pp b, pp tb, .int .i64 0] 27 ∧ cw.cell? ⟨bq, oq + i * 6 + 0, none⟩ = some (.int .i64 kd) ∧ cw.cell? ⟨bq, oq + i * 6 + 1, none⟩ = some (.int .i64 pg) ∧ cw.cell? ⟨bq, oq + i * 6 + 2, none⟩ = some (.int .i64 fg) ∧ cw.cell? ⟨bq, oq + i * 6 + 3, none⟩ = some (.bool qa) ∧ cw.cell? ⟨bq, oq + i * 6 + 4, none⟩ = some (.bool qb) ∧ cw.cell? ⟨bq, oq + i * 6 + 5, none⟩ = some (.bool qc)) wr) := ⟨HS.out.2.2, y0, y1, y2, y3, y4, y5⟩
        have DC : Hid (∀ W : World, Two (pm0 rb b tb 200) root rc (1 + i) i (7010 + 40 * i) Y u13 W → Calls Tryd.prog 14 #[.agg #[pp rb, pp b, pp tb, .int .i64 0], .int .i64 root, u13, .agg #[.int .i64 kd, .int .i64 pg, .int .i64 fg, .bool qa, .bool qb, .bool qc], .int .i64 100] W fun e w' => ∃ v', e = .returned (.tuple #[v', .bool true]) ∧ (∃ Y' : Nat → Prop, (∀ j, Y j → Y' j) ∧ Two (pm0 rb b tb 200) root rc (2 + i) i (7020 + 40 * i) Y' v' w') ∧ Kx Y W w') := fun W h => by
          have q := two_does h (by omega) (by omega) (by omega) kd pg fg qa qb qc
          rw [show 2 + i = 1 + i + 1 by omega, show 7020 + 40 * i = 7010 + 40 * i + 10 by omega]
          exact q
        clear y0 y1 y2 y3 y4 y5 gx lq LW
        go_upto_region 15 with fail
        refine wp_region_noPanic ?_
        refine wp_region_held_drew (S := fun cw => Blk cw B [pp rb, pp b, pp tb, .int .i64 0] 27 ∧ cw.cell? ⟨bq, oq + i * 6 + 0, none⟩ = some (.int .i64 kd) ∧ cw.cell? ⟨bq, oq + i * 6 + 1, none⟩ = some (.int .i64 pg) ∧ cw.cell? ⟨bq, oq + i * 6 + 2, none⟩ = some (.int .i64 fg) ∧ cw.cell? ⟨bq, oq + i * 6 + 3, none⟩ = some (.bool qa) ∧ cw.cell? ⟨bq, oq + i * 6 + 4, none⟩ = some (.bool qb) ∧ cw.cell? ⟨bq, oq + i * 6 + 5, none⟩ = some (.bool qc)) (by kernel_rfl) ?_ (fun hHeld => ?_)
        · exact SZ.out
        have GU : Hid (Two (pm0 rb b tb 200) root rc (1 + i) i (7010 + 40 * i) Y u13 wr.drew ∧ ((∀ j, X j → Y j) ∧ Kx X w2 wr.drew ∧ Blk wr.drew B [pp rb, pp b, pp tb, .int .i64 0] 27)) := ⟨two_drew HT2.out, HS.out.1, HS.out.2.1.trans (kx_drew _ _), HS.out.2.2⟩
        clear SZ HT2 HS
        generalize wr.drew = U at hHeld GU ⊢
        refine wpAnyH_take (i := 0) (oi := ⟨some 78, _, _, _, _, none⟩) (v := (.agg #[pp rb, pp b, pp tb, .int .i64 0])) rfl (by kernel_rfl) (by kernel_rfl) (by kernel_rfl) (fun _ _ _ h => h) (Or.inl ⟨by rfl, ?_⟩) (by assumption) ?_
        · intro w hSw; (try dsimp only at hSw); have r0 := Blk.cell hSw.1 0; have r1 := Blk.cell hSw.1 1; have r2 := Blk.cell hSw.1 2; have r3 := Blk.cell hSw.1 3; (try go_simp); (try simp [*])
        try simp only [Act.put, List.setIfInBounds_toArray, List.set_cons_zero, List.set_cons_succ]
        refine wpAnyH_take (i := 1) (oi := ⟨some 79, _, _, _, _, none⟩) (v := ?_) rfl (by kernel_rfl) (by kernel_rfl) (by kernel_rfl) (fun _ _ _ h => h) (Or.inl ⟨by rfl, ?_⟩) (by assumption) ?_
        rotate_left
        · intro w hSw; (try dsimp only at hSw); go_simp; (try with_reducible rfl)
        try simp only [Act.put, List.setIfInBounds_toArray, List.set_cons_zero, List.set_cons_succ]
        refine wpAnyH_take (i := 2) (oi := ⟨some 80, _, _, _, _, none⟩) (v := ?_) rfl (by kernel_rfl) (by kernel_rfl) (by kernel_rfl) (fun _ _ _ h => h) (Or.inl ⟨by rfl, ?_⟩) (by assumption) ?_
        rotate_left
        · intro w hSw; (try dsimp only at hSw); go_simp; (try with_reducible rfl)
        try simp only [Act.put, List.setIfInBounds_toArray, List.set_cons_zero, List.set_cons_succ]
        refine wpAnyH_take (i := 3) (oi := ⟨some 81, _, _, _, _, none⟩) (v := ?_) rfl (by kernel_rfl) (by kernel_rfl) (by kernel_rfl) (fun _ _ _ h => h) (Or.inl ⟨by rfl, ?_⟩) (by assumption) ?_
        rotate_left
        · intro w hSw; (try dsimp only at hSw); go_simp; (try with_reducible rfl)
        try simp only [Act.put, List.setIfInBounds_toArray, List.set_cons_zero, List.set_cons_succ]
        refine wpAnyH_take (i := 4) (oi := ⟨some 82, _, _, _, _, none⟩) (v := ?_) rfl (by kernel_rfl) (by kernel_rfl) (by kernel_rfl) (fun _ _ _ h => h) (Or.inl ⟨by rfl, ?_⟩) (by assumption) ?_
        rotate_left
        · intro w hSw; (try dsimp only at hSw); go_simp; (try with_reducible rfl)
        try simp only [Act.put, List.setIfInBounds_toArray, List.set_cons_zero, List.set_cons_succ]
        refine wpAnyH_take (i := 5) (oi := ⟨some 83, _, _, _, _, none⟩) (v := ?_) rfl (by kernel_rfl) (by kernel_rfl) (by kernel_rfl) (fun _ _ _ h => h) (Or.inl ⟨by rfl, ?_⟩) (by assumption) ?_
        rotate_left
        · intro w hSw; (try dsimp only at hSw); go_simp; (try with_reducible rfl)
        try simp only [Act.put, List.setIfInBounds_toArray, List.set_cons_zero, List.set_cons_succ]
        refine wpAnyH_take (i := 6) (oi := ⟨some 84, _, _, _, _, none⟩) (v := (.agg #[.int .i64 kd, .int .i64 pg, .int .i64 fg, .bool qa, .bool qb, .bool qc])) rfl (by kernel_rfl) (by kernel_rfl) (by kernel_rfl) (fun _ _ _ h => h) (Or.inl ⟨by rfl, ?_⟩) (by assumption) ?_
        · intro w hSw; (try dsimp only at hSw); have r0 : w.cell? ⟨bq, oq + i * 6, none⟩ = some (.int .i64 kd) := hSw.2.1; have r1 := hSw.2.2.1; have r2 := hSw.2.2.2.1; have r3 := hSw.2.2.2.2.1; have r4 := hSw.2.2.2.2.2.1; have r5 := hSw.2.2.2.2.2.2; (try go_simp); (try simp [*])
        try simp only [Act.put, List.setIfInBounds_toArray, List.set_cons_zero, List.set_cons_succ]
        refine wpAnyH_ready (rs := [7]) (by kernel_rfl) (by simp) ?_
        refine AllReadyH.cons (o := ⟨some 85, _, _, _, _, none⟩) rfl (fun K hK => ?_) AllReadyH.nil
        go_simp
        go_wp2_with (go_at_call 14; refine Calls.mono (DC.out _ GU.out.1) ?_; rintro e u2 ⟨v2, rfl, ⟨Y2, hY2, hT2⟩, hk⟩)
        have G2 : Hid (∃ Y : Nat → Prop, ((∀ j, X j → Y j) ∧ Kx X w2 u2 ∧ Blk u2 B [pp rb, pp b, pp tb, .int .i64 0] 27) ∧ Two (pm0 rb b tb 200) root rc (2 + i) i (7020 + 40 * i) Y v2 u2) := ⟨Y2, ⟨fun j hj => hY2 j (GU.out.2.1 j hj), GU.out.2.2.1.trans (hk.sub (fun j hj => GU.out.2.1 j hj)), GU.out.2.2.2.kx hk XB4.out⟩, hT2⟩
        have hkc : ∀ j, u2.cell? ⟨bq, j, none⟩ = U.cell? ⟨bq, j, none⟩ := fun j => World.cell?_of_block (hk.block bq XQ.out)
        refine hK.out _ _ ⟨hHeld.1.kx hk XB4.out, (hkc _).trans hHeld.2.1, (hkc _).trans hHeld.2.2.1, (hkc _).trans hHeld.2.2.2.1, (hkc _).trans hHeld.2.2.2.2.1, (hkc _).trans hHeld.2.2.2.2.2.1, (hkc _).trans hHeld.2.2.2.2.2.2⟩ (fun hHeld2 => ?_)
        clear hK K hHeld hY2 hT2 hk hkc GU
        have hHeld := hHeld2
        clear hHeld2
        try simp only [Act.put, List.setIfInBounds_toArray, List.set_cons_zero, List.set_cons_succ]
        refine wpAnyH_take (i := 8) (oi := ⟨some 77, _, _, _, _, none⟩) (v := ?_) rfl (by kernel_rfl) (by kernel_rfl) (by kernel_rfl) (fun _ _ _ h => h) (Or.inl ⟨by rfl, ?_⟩) (by assumption) ?_
        rotate_left
        · intro w hSw; (try dsimp only at hSw); go_simp; (try with_reducible rfl)
        try simp only [Act.put, List.setIfInBounds_toArray, List.set_cons_zero, List.set_cons_succ]
        refine wpAnyH_take (i := 9) (oi := ⟨some 86, _, _, _, _, none⟩) (v := ?_) rfl (by kernel_rfl) (by kernel_rfl) (by kernel_rfl) (fun _ _ _ h => h) (Or.inl ⟨by rfl, ?_⟩) (by assumption) ?_
        rotate_left
        · intro w hSw; (try dsimp only at hSw); go_simp; (try with_reducible rfl)
        try simp only [Act.put, List.setIfInBounds_toArray, List.set_cons_zero, List.set_cons_succ]
        refine wpAnyH_take (i := 10) (oi := ⟨some 87, _, _, _, _, none⟩) (v := ?_) rfl (by kernel_rfl) (by kernel_rfl) (by kernel_rfl) (fun _ _ _ h => h) (Or.inl ⟨by rfl, ?_⟩) (by assumption) ?_
        rotate_left
        · intro w hSw; (try dsimp only at hSw); go_simp; (try with_reducible rfl)
        try simp only [Act.put, List.setIfInBounds_toArray, List.set_cons_zero, List.set_cons_succ]
        refine wpAnyH_take (i := 11) (oi := ⟨some 16, _, _, _, _, none⟩) (v := ?_) rfl (by kernel_rfl) (by kernel_rfl) (by kernel_rfl) (fun _ _ _ h => h) (Or.inl ⟨by rfl, ?_⟩) (by assumption) ?_
        rotate_left
        · intro w hSw; (try dsimp only at hSw); go_simp; (try with_reducible rfl)
        try simp only [Act.put, List.setIfInBounds_toArray, List.set_cons_zero, List.set_cons_succ]
        refine wpAnyH_take (i := 12) (oi := ⟨some 17, _, _, _, _, none⟩) (v := ?_) rfl (by kernel_rfl) (by kernel_rfl) (by kernel_rfl) (fun _ _ _ h => h) (Or.inl ⟨by rfl, ?_⟩) (by assumption) ?_
        rotate_left
        · intro w hSw; (try dsimp only at hSw); go_simp; (try with_reducible rfl)
        try simp only [Act.put, List.setIfInBounds_toArray, List.set_cons_zero, List.set_cons_succ]
        clear hHeld
        refine wpAnyH_done (by kernel_rfl) ?_ _
        refine NoPanic.normal ?_
        go_wp2_with fail
        go_meet
        exact ⟨rfl, G2⟩
    case rest =>
      clear HP
      obtain ⟨hk6, Y, hSd, hTw⟩ := hcut
      subst hk6
      obtain ⟨vl, hvl⟩ : ∃ vl, vl = u13 := ⟨_, rfl⟩; subst hvl
      have HS : Hid ((∀ j, X j → Y j) ∧ Kx X w2 wc ∧ Blk wc B [pp rb, pp b, pp tb, .int .i64 0] 27) := hSd
      have HT2 : Hid (Two (pm0 rb b tb 200) root rc (2 + i) i (7020 + 40 * i) Y vl wc) := hTw
      clear hSd hTw
      by_cases hlt : i < n1
      rotate_left
      · have hd : decide ((i : Int) < (n1 : Int)) = false := by simp; omega
        have HE : Hid (∃ Y : Nat → Prop, ((∀ j, X j → Y j) ∧ Kx X w2 wc ∧ Blk wc B [pp rb, pp b, pp tb, .int .i64 0] 27) ∧ Two (pm0 rb b tb 200) root rc (1 + (i + 1)) (i + 1) (7010 + 40 * (i + 1)) Y vl wc) := ⟨Y, HS.out, HT2.out.mono (by omega) (by omega) (by omega)⟩
        clear HS HT2
        go_wp2_with fail
        go_roundw
        case rel => exact ⟨i + 1, by omega, by go_num, rfl, HE⟩
        case measure => simp [Go.RowKit.intOf]; omega
      · have hd : decide ((i : Int) < (n1 : Int)) = true := by simp; omega
        have LW : Hid (Below w.heap.size w wc) := by
          have q := HS.out.2.1
          exact L2.out.trans ⟨q.os, q.tape, q.output, q.size, fun j hj => q.block j (XB.out.2 j hj)⟩
        obtain ⟨bq, oq, rfl, lq, y0, y1, y2, y3, y4, y5, gx⟩ := (HA1.out.below LW.out) i hlt
        have XQ : Hid (Y bq) := by
          obtain ⟨b', o', e', l', _⟩ := HA1.out i hlt
          cases e'
          exact HS.out.1 _ (XB.out.2 _ l')
        have XB4 : Hid (Y B) := HS.out.1 B XB.out.1
        generalize A1 i = st at y0 y1 y2 y3 y4 y5 gx
        obtain ⟨kd, pg, fg, qa, qb, qc⟩ := st
        simp only at y0 y1 y2 y3 y4 y5 gx
        have SZ : Hid ((fun cw => Blk cw B [pp rb, pp b, pp tb, .int .i64 0] 27 ∧ cw.cell? ⟨bq, oq + i * 6 + 0, none⟩ = some (.int .i64 kd) ∧ cw.cell? ⟨bq, oq + i * 6 + 1, none⟩ = some (.int .i64 pg) ∧ cw.cell? ⟨bq, oq + i * 6 + 2, none⟩ = some (.int .i64 fg) ∧ cw.cell? ⟨bq, oq + i * 6 + 3, none⟩ = some (.bool qa) ∧ cw.cell? ⟨bq, oq + i * 6 + 4, none⟩ = some (.bool qb) ∧ cw.cell? ⟨bq, oq + i * 6 + 5, none⟩ = some (.bool qc)) wc) := ⟨HS.out.2.2, y0, y1, y2, y3, y4, y5⟩
        have MC : Hid (∀ W : World, Two (pm0 rb b tb 200) root rc (2 + i) i (7020 + 40 * i) Y vl W → Calls Tryd.prog 26 #[.agg #[pp rb, pp b, pp tb, .int .i64 0], .int .i64 rc, .int .i64 pg, .int .i64 fg, .agg #[.bool qa, .bool qb, .bool qc]] W fun e w' => ∃ z : Int, e = .returned (.int .i64 z) ∧ Two (pm0 rb b tb 200) root rc (2 + i) (i + 1) (7030 + 40 * i) Y vl w' ∧ Kx Y W w') := fun W h => by
          have q := two_map h (by omega) (by omega) (by omega) pg fg qa qb qc
          rw [show 7030 + 40 * i = 7020 + 40 * i + 10 by omega]
          exact q
        have UC : Hid (∀ W : World, Two (pm0 rb b tb 200) root rc (2 + i) (i + 1) (7030 + 40 * i) Y vl W → Calls Tryd.prog 27 #[.agg #[pp rb, pp b, pp tb, .int .i64 0], .int .i64 rc, .int .i64 pg] W fun e w' => ∃ z z2 : Int, e = .returned (.tuple #[.int .i64 z, .int .i64 z2]) ∧ Two (pm0 rb b tb 200) root rc (2 + i) (i + 1) (7040 + 40 * i) Y vl w' ∧ Kx Y W w') := fun W h => by
          have q := two_unmap h (by omega) pg
          rw [show 7040 + 40 * i = 7030 + 40 * i + 10 by omega]
          exact q
        clear y0 y1 y2 y3 y4 y5 gx lq LW
        go_upto_region 19 with fail
        refine wp_region_noPanic ?_
        refine wp_region_held_drew (S := fun cw => Blk cw B [pp rb, pp b, pp tb, .int .i64 0] 27 ∧ cw.cell? ⟨bq, oq + i * 6 + 0, none⟩ = some (.int .i64 kd) ∧ cw.cell? ⟨bq, oq + i * 6 + 1, none⟩ = some (.int .i64 pg) ∧ cw.cell? ⟨bq, oq + i * 6 + 2, none⟩ = some (.int .i64 fg) ∧ cw.cell? ⟨bq, oq + i * 6 + 3, none⟩ = some (.bool qa) ∧ cw.cell? ⟨bq, oq + i * 6 + 4, none⟩ = some (.bool qb) ∧ cw.cell? ⟨bq, oq + i * 6 + 5, none⟩ = some (.bool qc)) (by kernel_rfl) ?_ (fun hHeld => ?_)
        · exact SZ.out
        have GU : Hid (Two (pm0 rb b tb 200) root rc (2 + i) i (7020 + 40 * i) Y vl wc.drew ∧ ((∀ j, X j → Y j) ∧ Kx X w2 wc.drew ∧ Blk wc.drew B [pp rb, pp b, pp tb, .int .i64 0] 27)) := ⟨two_drew HT2.out, HS.out.1, HS.out.2.1.trans (kx_drew _ _), HS.out.2.2⟩
        clear SZ HT2 HS
        generalize wc.drew = U at hHeld GU ⊢
        refine wpAnyH_take (i := 0) (oi := ⟨some 97, _, _, _, _, none⟩) (v := (.agg #[pp rb, pp b, pp tb, .int .i64 0])) rfl (by kernel_rfl) (by kernel_rfl) (by kernel_rfl) (fun _ _ _ h => h) (Or.inl ⟨by rfl, ?_⟩) (by assumption) ?_
        · intro w hSw; (try dsimp only at hSw); have r0 := Blk.cell hSw.1 0; have r1 := Blk.cell hSw.1 1; have r2 := Blk.cell hSw.1 2; have r3 := Blk.cell hSw.1 3; (try go_simp); (try simp [*])
        try simp only [Act.put, List.setIfInBounds_toArray, List.set_cons_zero, List.set_cons_succ]
        refine wpAnyH_take (i := 1) (oi := ⟨some 98, _, _, _, _, none⟩) (v := ?_) rfl (by kernel_rfl) (by kernel_rfl) (by kernel_rfl) (fun _ _ _ h => h) (Or.inl ⟨by rfl, ?_⟩) (by assumption) ?_
        rotate_left
        · intro w hSw; (try dsimp only at hSw); go_simp; (try with_reducible rfl)
        try simp only [Act.put, List.setIfInBounds_toArray, List.set_cons_zero, List.set_cons_succ]
        refine wpAnyH_take (i := 2) (oi := ⟨some 99, _, _, _, _, none⟩) (v := ?_) rfl (by kernel_rfl) (by kernel_rfl) (by kernel_rfl) (fun _ _ _ h => h) (Or.inl ⟨by rfl, ?_⟩) (by assumption) ?_
        rotate_left
        · intro w hSw; (try dsimp only at hSw); go_simp; (try with_reducible rfl)
        try simp only [Act.put, List.setIfInBounds_toArray, List.set_cons_zero, List.set_cons_succ]
        refine wpAnyH_take (i := 3) (oi := ⟨some 100, _, _, _, _, none⟩) (v := ?_) rfl (by kernel_rfl) (by kernel_rfl) (by kernel_rfl) (fun _ _ _ h => h) (Or.inl ⟨by rfl, ?_⟩) (by assumption) ?_
        rotate_left
        · intro w hSw; (try dsimp only at hSw); go_simp; (try with_reducible rfl)
        try simp only [Act.put, List.setIfInBounds_toArray, List.set_cons_zero, List.set_cons_succ]
        refine wpAnyH_take (i := 4) (oi := ⟨some 101, _, _, _, _, none⟩) (v := ?_) rfl (by kernel_rfl) (by kernel_rfl) (by kernel_rfl) (fun _ _ _ h => h) (Or.inl ⟨by rfl, ?_⟩) (by assumption) ?_
        rotate_left
        · intro w hSw; (try dsimp only at hSw); go_simp; (try with_reducible rfl)
        try simp only [Act.put, List.setIfInBounds_toArray, List.set_cons_zero, List.set_cons_succ]
        refine wpAnyH_take (i := 5) (oi := ⟨some 102, _, _, _, _, none⟩) (v := ?_) rfl (by kernel_rfl) (by kernel_rfl) (by kernel_rfl) (fun _ _ _ h => h) (Or.inl ⟨by rfl, ?_⟩) (by assumption) ?_
        rotate_left
        · intro w hSw; (try dsimp only at hSw); go_simp; (try with_reducible rfl)
        try simp only [Act.put, List.setIfInBounds_toArray, List.set_cons_zero, List.set_cons_succ]
        refine wpAnyH_take (i := 6) (oi := ⟨some 103, _, _, _, _, none⟩) (v := (.int .i64 pg)) rfl (by kernel_rfl) (by kernel_rfl) (by kernel_rfl) (fun _ _ _ h => h) (Or.inl ⟨by rfl, ?_⟩) (by assumption) ?_
        · intro w hSw; (try dsimp only at hSw); have r := hSw.2.2.1; (try go_simp); (try simp [*])
        try simp only [Act.put, List.setIfInBounds_toArray, List.set_cons_zero, List.set_cons_succ]
        refine wpAnyH_take (i := 7) (oi := ⟨some 104, _, _, _, _, none⟩) (v := ?_) rfl (by kernel_rfl) (by kernel_rfl) (by kernel_rfl) (fun _ _ _ h => h) (Or.inl ⟨by rfl, ?_⟩) (by assumption) ?_
        rotate_left
        · intro w hSw; (try dsimp only at hSw); go_simp; (try with_reducible rfl)
        try simp only [Act.put, List.setIfInBounds_toArray, List.set_cons_zero, List.set_cons_succ]
        refine wpAnyH_take (i := 8) (oi := ⟨some 105, _, _, _, _, none⟩) (v := ?_) rfl (by kernel_rfl) (by kernel_rfl) (by kernel_rfl) (fun _ _ _ h => h) (Or.inl ⟨by rfl, ?_⟩) (by assumption) ?_
        rotate_left
        · intro w hSw; (try dsimp only at hSw); go_simp; (try with_reducible rfl)
        try simp only [Act.put, List.setIfInBounds_toArray, List.set_cons_zero, List.set_cons_succ]
        refine wpAnyH_take (i := 9) (oi := ⟨some 106, _, _, _, _, none⟩) (v := ?_) rfl (by kernel_rfl) (by kernel_rfl) (by kernel_rfl) (fun _ _ _ h => h) (Or.inl ⟨by rfl, ?_⟩) (by assumption) ?_
        rotate_left
        · intro w hSw; (try dsimp only at hSw); go_simp; (try with_reducible rfl)
        try simp only [Act.put, List.setIfInBounds_toArray, List.set_cons_zero, List.set_cons_succ]
        refine wpAnyH_take (i := 10) (oi := ⟨some 107, _, _, _, _, none⟩) (v := ?_) rfl (by kernel_rfl) (by kernel_rfl) (by kernel_rfl) (fun _ _ _ h => h) (Or.inl ⟨by rfl, ?_⟩) (by assumption) ?_
        rotate_left
        · intro w hSw; (try dsimp only at hSw); go_simp; (try with_reducible rfl)
        try simp only [Act.put, List.setIfInBounds_toArray, List.set_cons_zero, List.set_cons_succ]
        refine wpAnyH_take (i := 11) (oi := ⟨some 108, _, _, _, _, none⟩) (v := (.int .i64 fg)) rfl (by kernel_rfl) (by kernel_rfl) (by kernel_rfl) (fun _ _ _ h => h) (Or.inl ⟨by rfl, ?_⟩) (by assumption) ?_
        · intro w hSw; (try dsimp only at hSw); have r := hSw.2.2.2.1; (try go_simp); (try simp [*])
        try simp only [Act.put, List.setIfInBounds_toArray, List.set_cons_zero, List.set_cons_succ]
        refine wpAnyH_take (i := 12) (oi := ⟨some 109, _, _, _, _, none⟩) (v := ?_) rfl (by kernel_rfl) (by kernel_rfl) (by kernel_rfl) (fun _ _ _ h => h) (Or.inl ⟨by rfl, ?_⟩) (by assumption) ?_
        rotate_left
        · intro w hSw; (try dsimp only at hSw); go_simp; (try with_reducible rfl)
        try simp only [Act.put, List.setIfInBounds_toArray, List.set_cons_zero, List.set_cons_succ]
        refine wpAnyH_take (i := 13) (oi := ⟨some 110, _, _, _, _, none⟩) (v := ?_) rfl (by kernel_rfl) (by kernel_rfl) (by kernel_rfl) (fun _ _ _ h => h) (Or.inl ⟨by rfl, ?_⟩) (by assumption) ?_
        rotate_left
        · intro w hSw; (try dsimp only at hSw); go_simp; (try with_reducible rfl)
        try simp only [Act.put, List.setIfInBounds_toArray, List.set_cons_zero, List.set_cons_succ]
        refine wpAnyH_take (i := 14) (oi := ⟨some 111, _, _, _, _, none⟩) (v := ?_) rfl (by kernel_rfl) (by kernel_rfl) (by kernel_rfl) (fun _ _ _ h => h) (Or.inl ⟨by rfl, ?_⟩) (by assumption) ?_
        rotate_left
        · intro w hSw; (try dsimp only at hSw); go_simp; (try with_reducible rfl)
        try simp only [Act.put, List.setIfInBounds_toArray, List.set_cons_zero, List.set_cons_succ]
        refine wpAnyH_take (i := 15) (oi := ⟨some 112, _, _, _, _, none⟩) (v := ?_) rfl (by kernel_rfl) (by kernel_rfl) (by kernel_rfl) (fun _ _ _ h => h) (Or.inl ⟨by rfl, ?_⟩) (by assumption) ?_
        rotate_left
        · intro w hSw; (try dsimp only at hSw); go_simp; (try with_reducible rfl)
        try simp only [Act.put, List.setIfInBounds_toArray, List.set_cons_zero, List.set_cons_succ]
        refine wpAnyH_take (i := 16) (oi := ⟨some 113, _, _, _, _, none⟩) (v := (.agg #[.bool qa, .bool qb, .bool qc])) rfl (by kernel_rfl) (by kernel_rfl) (by kernel_rfl) (fun _ _ _ h => h) (Or.inl ⟨by rfl, ?_⟩) (by assumption) ?_
        · intro w hSw; (try dsimp only at hSw); have r := hSw.2.2.2.2.1; have r1 := hSw.2.2.2.2.2.1; have r2 := hSw.2.2.2.2.2.2; have r3 : w.cell? ⟨bq, oq + i * 6 + 3 + 1, none⟩ = some (.bool qb) := r1; have r4 : w.cell? ⟨bq, oq + i * 6 + 3 + 2, none⟩ = some (.bool qc) := r2; (try go_simp); (try simp [*])
        try simp only [Act.put, List.setIfInBounds_toArray, List.set_cons_zero, List.set_cons_succ]
        refine wpAnyH_ready (rs := [17]) (by kernel_rfl) (by simp) ?_
        refine AllReadyH.cons (o := ⟨some 114, _, _, _, _, none⟩) rfl (fun K hK => ?_) AllReadyH.nil
        go_simp
        go_wp2_with (go_at_call 26; refine Calls.mono (MC.out _ GU.out.1) ?_; rintro e u2 ⟨zz, rfl, hT2, hk⟩)
        have G2 : Hid (Two (pm0 rb b tb 200) root rc (2 + i) (i + 1) (7030 + 40 * i) Y vl u2 ∧ ((∀ j, X j → Y j) ∧ Kx X w2 u2 ∧ Blk u2 B [pp rb, pp b, pp tb, .int .i64 0] 27)) := ⟨hT2, GU.out.2.1, GU.out.2.2.1.trans (hk.sub (fun j hj => GU.out.2.1 j hj)), GU.out.2.2.2.kx hk XB4.out⟩
        have hkc : ∀ j, u2.cell? ⟨bq, j, none⟩ = U.cell? ⟨bq, j, none⟩ := fun j => World.cell?_of_block (hk.block bq XQ.out)
        have SZ2 : Hid ((fun cw => Blk cw B [pp rb, pp b, pp tb, .int .i64 0] 27 ∧ cw.cell? ⟨bq, oq + i * 6 + 0, none⟩ = some (.int .i64 kd) ∧ cw.cell? ⟨bq, oq + i * 6 + 1, none⟩ = some (.int .i64 pg) ∧ cw.cell? ⟨bq, oq + i * 6 + 2, none⟩ = some (.int .i64 fg) ∧ cw.cell? ⟨bq, oq + i * 6 + 3, none⟩ = some (.bool qa) ∧ cw.cell? ⟨bq, oq + i * 6 + 4, none⟩ = some (.bool qb) ∧ cw.cell? ⟨bq, oq + i * 6 + 5, none⟩ = some (.bool qc)) u2) := ⟨hHeld.1.kx hk XB4.out, (hkc _).trans hHeld.2.1, (hkc _).trans hHeld.2.2.1, (hkc _).trans hHeld.2.2.2.1, (hkc _).trans hHeld.2.2.2.2.1, (hkc _).trans hHeld.2.2.2.2.2.1, (hkc _).trans hHeld.2.2.2.2.2.2⟩
        refine hK.out _ _ ⟨hHeld.1.kx hk XB4.out, (hkc _).trans hHeld.2.1, (hkc _).trans hHeld.2.2.1, (hkc _).trans hHeld.2.2.2.1, (hkc _).trans hHeld.2.2.2.2.1, (hkc _).trans hHeld.2.2.2.2.2.1, (hkc _).trans hHeld.2.2.2.2.2.2⟩ (fun hHeld2 => ?_)
        clear hK K hHeld hT2 hk hkc GU
        have hHeld := hHeld2
        clear hHeld2
        try simp only [Act.put, List.setIfInBounds_toArray, List.set_cons_zero, List.set_cons_succ]
        clear hHeld
        refine wpAnyH_done (by kernel_rfl) ?_ _
        refine NoPanic.normal ?_
        go_upto_region 20 with fail
        have r0 : u2.cell? ⟨bq, oq + i * 6, none⟩ = some (.int .i64 kd) := SZ2.out.2.1
        have lq := blk_of_cell r0
        by_cases c1 : kd = 1
        · have k1 : (kd != 1) = false := by simp [c1]
          have k2 : (kd == 1) = true := by simp [c1]
          have HE : Hid (∃ Y : Nat → Prop, ((∀ j, X j → Y j) ∧ Kx X w2 u2 ∧ Blk u2 B [pp rb, pp b, pp tb, .int .i64 0] 27) ∧ Two (pm0 rb b tb 200) root rc (1 + (i + 1)) (i + 1) (7010 + 40 * (i + 1)) Y vl u2) := ⟨Y, G2.out.2, G2.out.1.mono (by omega) (by omega) (by omega)⟩
          clear G2 SZ2 c1
          go_wp2_with fail
          go_roundw
          case rel => exact ⟨i + 1, by omega, by go_num, rfl, HE⟩
          case measure => simp [Go.RowKit.intOf]; omega
        · have k1 : (kd != 1) = true := by simp [c1]
          have k2 : (kd == 1) = false := by simp [c1]
          go_upto_region 21 with fail
          clear r0 lq
          refine wp_region_noPanic ?_
          refine wp_region_held_drew (S := fun cw => Blk cw B [pp rb, pp b, pp tb, .int .i64 0] 27 ∧ cw.cell? ⟨bq, oq + i * 6 + 0, none⟩ = some (.int .i64 kd) ∧ cw.cell? ⟨bq, oq + i * 6 + 1, none⟩ = some (.int .i64 pg) ∧ cw.cell? ⟨bq, oq + i * 6 + 2, none⟩ = some (.int .i64 fg) ∧ cw.cell? ⟨bq, oq + i * 6 + 3, none⟩ = some (.bool qa) ∧ cw.cell? ⟨bq, oq + i * 6 + 4, none⟩ = some (.bool qb) ∧ cw.cell? ⟨bq, oq + i * 6 + 5, none⟩ = some (.bool qc)) (by kernel_rfl) ?_ (fun hHeld => ?_)
          · exact SZ2.out
          have GU : Hid (Two (pm0 rb b tb 200) root rc (2 + i) (i + 1) (7030 + 40 * i) Y vl u2.drew ∧ ((∀ j, X j → Y j) ∧ Kx X w2 u2.drew ∧ Blk u2.drew B [pp rb, pp b, pp tb, .int .i64 0] 27)) := ⟨two_drew G2.out.1, G2.out.2.1, G2.out.2.2.1.trans (kx_drew _ _), G2.out.2.2.2⟩
          clear SZ2 G2
          generalize u2.drew = U at hHeld GU ⊢
          refine wpAnyH_take (i := 0) (oi := ⟨some 121, _, _, _, _, none⟩) (v := (.agg #[pp rb, pp b, pp tb, .int .i64 0])) rfl (by kernel_rfl) (by kernel_rfl) (by kernel_rfl) (fun _ _ _ h => h) (Or.inl ⟨by rfl, ?_⟩) (by assumption) ?_
          · intro w hSw; (try dsimp only at hSw); have r0 := Blk.cell hSw.1 0; have r1 := Blk.cell hSw.1 1; have r2 := Blk.cell hSw.1 2; have r3 := Blk.cell hSw.1 3; (try go_simp); (try simp [*])
          try simp only [Act.put, List.setIfInBounds_toArray, List.set_cons_zero, List.set_cons_succ]
          refine wpAnyH_take (i := 1) (oi := ⟨some 122, _, _, _, _, none⟩) (v := ?_) rfl (by kernel_rfl) (by kernel_rfl) (by kernel_rfl) (fun _ _ _ h => h) (Or.inl ⟨by rfl, ?_⟩) (by assumption) ?_
          rotate_left
          · intro w hSw; (try dsimp only at hSw); go_simp; (try with_reducible rfl)
          try simp only [Act.put, List.setIfInBounds_toArray, List.set_cons_zero, List.set_cons_succ]
          refine wpAnyH_take (i := 2) (oi := ⟨some 123, _, _, _, _, none⟩) (v := ?_) rfl (by kernel_rfl) (by kernel_rfl) (by kernel_rfl) (fun _ _ _ h => h) (Or.inl ⟨by rfl, ?_⟩) (by assumption) ?_
          rotate_left
          · intro w hSw; (try dsimp only at hSw); go_simp; (try with_reducible rfl)
          try simp only [Act.put, List.setIfInBounds_toArray, List.set_cons_zero, List.set_cons_succ]
          refine wpAnyH_take (i := 3) (oi := ⟨some 124, _, _, _, _, none⟩) (v := ?_) rfl (by kernel_rfl) (by kernel_rfl) (by kernel_rfl) (fun _ _ _ h => h) (Or.inl ⟨by rfl, ?_⟩) (by assumption) ?_
          rotate_left
          · intro w hSw; (try dsimp only at hSw); go_simp; (try with_reducible rfl)
          try simp only [Act.put, List.setIfInBounds_toArray, List.set_cons_zero, List.set_cons_succ]
          refine wpAnyH_take (i := 4) (oi := ⟨some 125, _, _, _, _, none⟩) (v := ?_) rfl (by kernel_rfl) (by kernel_rfl) (by kernel_rfl) (fun _ _ _ h => h) (Or.inl ⟨by rfl, ?_⟩) (by assumption) ?_
          rotate_left
          · intro w hSw; (try dsimp only at hSw); go_simp; (try with_reducible rfl)
          try simp only [Act.put, List.setIfInBounds_toArray, List.set_cons_zero, List.set_cons_succ]
          refine wpAnyH_take (i := 5) (oi := ⟨some 126, _, _, _, _, none⟩) (v := ?_) rfl (by kernel_rfl) (by kernel_rfl) (by kernel_rfl) (fun _ _ _ h => h) (Or.inl ⟨by rfl, ?_⟩) (by assumption) ?_
          rotate_left
          · intro w hSw; (try dsimp only at hSw); go_simp; (try with_reducible rfl)
          try simp only [Act.put, List.setIfInBounds_toArray, List.set_cons_zero, List.set_cons_succ]
          refine wpAnyH_take (i := 6) (oi := ⟨some 127, _, _, _, _, none⟩) (v := (.int .i64 pg)) rfl (by kernel_rfl) (by kernel_rfl) (by kernel_rfl) (fun _ _ _ h => h) (Or.inl ⟨by rfl, ?_⟩) (by assumption) ?_
          · intro w hSw; (try dsimp only at hSw); have r := hSw.2.2.1; (try go_simp); (try simp [*])
          try simp only [Act.put, List.setIfInBounds_toArray, List.set_cons_zero, List.set_cons_succ]
          refine wpAnyH_ready (rs := [7]) (by kernel_rfl) (by simp) ?_
          refine AllReadyH.cons (o := ⟨some 128, _, _, _, _, none⟩) rfl (fun K hK => ?_) AllReadyH.nil
          go_simp
          go_wp2_with (go_at_call 27; refine Calls.mono (UC.out _ GU.out.1) ?_; rintro e u3 ⟨z1, z2, rfl, hT3, hk⟩)
          have G3 : Hid (Two (pm0 rb b tb 200) root rc (2 + i) (i + 1) (7040 + 40 * i) Y vl u3 ∧ ((∀ j, X j → Y j) ∧ Kx X w2 u3 ∧ Blk u3 B [pp rb, pp b, pp tb, .int .i64 0] 27)) := ⟨hT3, GU.out.2.1, GU.out.2.2.1.trans (hk.sub (fun j hj => GU.out.2.1 j hj)), GU.out.2.2.2.kx hk XB4.out⟩
          have hkc : ∀ j, u3.cell? ⟨bq, j, none⟩ = U.cell? ⟨bq, j, none⟩ := fun j => World.cell?_of_block (hk.block bq XQ.out)
          refine hK.out _ _ ⟨hHeld.1.kx hk XB4.out, (hkc _).trans hHeld.2.1, (hkc _).trans hHeld.2.2.1, (hkc _).trans hHeld.2.2.2.1, (hkc _).trans hHeld.2.2.2.2.1, (hkc _).trans hHeld.2.2.2.2.2.1, (hkc _).trans hHeld.2.2.2.2.2.2⟩ (fun hHeld2 => ?_)
          clear hK K hHeld hT3 hk hkc GU
          have hHeld := hHeld2
          clear hHeld2
          try simp only [Act.put, List.setIfInBounds_toArray, List.set_cons_zero, List.set_cons_succ]
          clear hHeld
          refine wpAnyH_done (by kernel_rfl) ?_ _
          refine NoPanic.normal ?_
          have HE : Hid (∃ Y : Nat → Prop, ((∀ j, X j → Y j) ∧ Kx X w2 u3 ∧ Blk u3 B [pp rb, pp b, pp tb, .int .i64 0] 27) ∧ Two (pm0 rb b tb 200) root rc (1 + (i + 1)) (i + 1) (7010 + 40 * (i + 1)) Y vl u3) := ⟨Y, G3.out.2, G3.out.1.mono (by omega) (by omega) (by omega)⟩
          clear G3
          go_wp2_with fail
          go_roundw
          case rel => exact ⟨i + 1, by omega, by go_num, rfl, HE⟩
          case measure => simp [Go.RowKit.intOf]; omega

set_option maxRecDepth 100000 in
theorem lifted (os : Os) (started : os.Started) (H : Type) (enc : TypeId × Value → H) :
    ReturnsInHanded {} Tryd.checked os 6 .any (fun w args => (Rows.tableApartSpec.pre enc Tryd.prog Tryd.f6 [] false w args ∧ laidMetH Tryd.prog laidL w) ∧ sizedMet enc Tryd.prog Tryd.f6 (OpenSpec.ofChange Rows.tableApartSpec) false w args)
      (Rows.tableApartSpec.post enc Tryd.prog Tryd.f6 false true false false) := by
  refine returnsInHanded_of_change_and (C := Tryd.checked) (X := fun w _ => laidMetH Tryd.prog laidL w) (fun _ _ _ hh h => h.of_heap hh) own started (by kernel_rfl) Tryd.func6
    (ChangeSpec.witness_shaped (enc := enc) (C := Tryd.checked) (os := os) (X := fun w _ => laidMetH Tryd.prog laidL w) false (World.doorLaid Tryd.prog 400 os) #[.slice none 0 0, .slice none 0 0] 8 rfl (World.shaped_of_RefB (by kernel_rfl) (by kernel_rfl)) (by kernel_rfl) (by kernel_rfl) (by kernel_rfl) (door_met os _)) ?_
  intro W base args ds gs before hval0 hW _ _ hL _
  have hval : ∀ (j : Nat) t v, Tryd.f6.params[j]? = some t → args[j]? = some v → Value.okWide Tryd.prog W .any base t v := hval0
  have hW' := hW
  obtain ⟨p, q, hA0, hV, hbef, hfz, hnd⟩ := hW
  have hA : DataW.TrodAll enc Tryd.prog W 0 (fun _ => true) true Tryd.f6.params.toList args.toList ds p := hA0
  have hAk := hA
  have hlt : ∀ x ∈ p, x.block < W.heap.size := fun x hx => hW'.lt x (by rw [hbef]; exact List.mem_append_left _ hx)
  rw [Tryd.params6] at hA hval
  obtain ⟨v0, vs0, d0, ds0, p0, q0, hargs, rfl, hp0, h0, r0⟩ := trodAll_cons hA
  obtain ⟨v1, vs1, d1, ds1, p1, q1, rfl, rfl, hp1, h1, r1⟩ := trodAll_cons r0
  obtain ⟨rfl, rfl, hpz⟩ := trodAll_nil r1
  obtain rfl : args = #[v0, v1] := by cases args; simp_all
  obtain ⟨rfl, rfl⟩ := trodVars_none hV
  obtain ⟨p0, n0, c0, A0, rfl, m0, H0⟩ := open_acts (hval 0 22 v0 rfl rfl) h0
  obtain ⟨p1, n1, c1, A1, rfl, m1, H1⟩ := open_acts (hval 1 22 v1 rfl rfl) h1
  clear hA0 hval0
  refine (walk p0 n0 c0 A0 m0 p1 n1 c1 A1 m1 W (of_laid hL) H0 H1).mono fun e W' ⟨he, hg⟩ => ?_
  subst he
  exact ⟨_, rfl, ⟨_, _, _, [], p, [], hW', (trodAll_cons_mk (shut_bool Tryd.underlying4 _) trodAll_mk0), args_stay laidOut hg (by kernel_rfl) hAk hlt, rfl, hg.frame _, fun h => by cases h⟩⟩

theorem over : Rows.tableApartRow.holds Tryd.pinned (OpenSpec.ofChange Rows.tableApartSpec) :=
  OpenClaim.holds_of_wide 6 Tryd.f6 rfl rfl rfl rfl rfl rfl rfl ⟨rfl, rfl, rfl, rfl, rfl⟩ rfl rfl rfl rfl rfl (by kernel_rfl) Tryd.func6 (by kernel_rfl)
    (of_decide_eq_true (by kernel_rfl)) (by unfold Func.isWrapper; first | (rw [if_pos (by decide +kernel)]; kernel_rfl) | (rw [if_neg (by decide +kernel)]; exact ⟨rfl, rfl⟩))
    (fun os started H enc _ => lifted os started H enc)

theorem proved : Rows.TableApartCardSaid :=
  Claim7.holds_tied_plain_at .later [] [.data] true (true, "64c8694732dce4494ae4c7601e39c35f2573908f76922d47bdd02e269d73e0bb") true
    over (fun _ h => by cases h) (by kernel_rfl) (fun _ h => by cases h) tableApart_row_tie rfl ⟨rfl, rfl⟩ (by kernel_rfl) rfl
    (fun f fn hf hfn => by
      obtain rfl : f = 6 := Option.some.inj ((show Tryd.prog.funcNamed "demesne/demesnelaw09.TableApart" = some 6 by kernel_rfl).symm.trans hf) |>.symm
      obtain rfl : fn = Tryd.f6 := (Option.some.inj (Tryd.func6.symm.trans hfn)).symm
      exact ⟨by kernel_rfl, fun j t ht => by
        rw [Tryd.params6] at ht
        have hm : t ∈ [22, 22] := by simpa using Array.mem_of_getElem? ht
        have hall : ([22, 22].all fun u => !Tryd.prog.wantsStandIn u) = true := by kernel_rfl
        exact (show Tryd.prog.wantsStandIn t = false by simpa using List.all_eq_true.1 hall t hm)⟩)
    (by kernel_rfl)
#print axioms proved
end Go.Proofs.YtkiclbnbnjbcaaaDoor.tableApart
