/- TablePlays: with any room for tables: behind any 30 calls pages lead where they were mapped to, just the tables that they need are charged, and all pages are told. No condition. -/
import Derived.Test.YtkiclbnbnjbcaaaDoorRows
import Derived.Test.YtkiclbnbnjbcaaaDoorCards
import Derived.Test.YtkiclbnbnjbcaaaDoorTie
import Derived.ProofKit
import Derived.OpenShut
import Derived.Stop.Joined
import Derived.SevenTiedAt
import Derived.Test.YtkiclbnbnjbcaaaDoorMJ
namespace Go.Proofs.YtkiclbnbnjbcaaaDoor.tablePlays
open Go.ChangeShapes Go.WideShapes Go.ChangeAt Go.RowKit
set_option linter.unusedSimpArgs false
set_option linter.unusedVariables false
open Go.Proofs.YtkiclbnbnjbcaaaDoor.Tt
set_option maxRecDepth 8000
theorem below_dr (W : World) : Below W.heap.size W W.drew := ⟨rfl, rfl, rfl, Nat.le_refl _, fun _ _ => rfl⟩
theorem kx_drew (X : Nat → Prop) (W : World) : Kx X W W.drew := ⟨rfl, rfl, rfl, Nat.le_refl _, fun _ _ => rfl⟩
theorem sd_drew {X : Nat → Prop} {m : Pm} {root k : Nat} {R U : Int} {F : Nat} {s : Ps} {tab : Nat → Nat → Option Nat} {lf : Nat → Option Lf} {v : Value} {W w : World} (h : Sd X m root k R U F s tab lf v W) (hb : Below W.heap.size W w) : Sd X m root k R U F s tab lf v w := ⟨h.st.below hb, by obtain ⟨p, c, hv, hl, hg⟩ := h.ls; exact ⟨p, c, hv, hl.below hb, hg⟩⟩

set_option maxHeartbeats 8000000 in
theorem walk (a0 : Int) (w0 : (Lit.int .i64 a0).wf = true) (p1 : Option Addr) (n1 c1 : Nat) (A1 : Nat → Ac) (m1 : n1 ≤ maxLen) (w : World) (ht : Tab w) (H1 : IsActs w p1 n1 A1) :
    Calls Tryd.prog 3 #[.int .i64 a0, .slice p1 n1 c1] w fun e w' => e = .returned (.bool true) ∧ Below w.heap.size w w' := by
  have AW : Hid (∀ W : World, Tab W → Calls Tryd.prog 10 #[] W fun e w' => e = .returned (.bool true) ∧ Below W.heap.size W w') := fun W t => awake_any W t
  have HT : Hid (Tab w) := ht
  have WP : Hid (0 < w.heap.size) := ht.1
  have HA : Hid (IsActs w p1 n1 A1) := H1
  have WP0 : Hid (0 < w.heap.size) := ht.1
  have PC : Hid _ := purse_ok w ht 60 60 (by omega) (by omega) (by omega) (by omega)
  clear ht H1
  go_enter Tryd.func3, Tryd.ntmps3
  go_wp2_with fail
  refine Calls.mono PC.out ?_
  rintro e w1 ⟨rb, b, tb, rfl, hp1, hb1⟩
  obtain ⟨X, hX⟩ : ∃ X : Nat → Prop, X = XW (fun j => j < w.heap.size) w1 (w1.alloc (.cells #[pp rb, pp b, pp tb, .int .i64 0] 27)) := ⟨_, rfl⟩
  have F2 : Hid (Pu X (w1.alloc (.cells #[pp rb, pp b, pp tb, .int .i64 0] 27)) (pm0 rb b tb 60) (ps0 (from1 60) 60) ∧ Blk (w1.alloc (.cells #[pp rb, pp b, pp tb, .int .i64 0] 27)) w1.heap.size [pp rb, pp b, pp tb, .int .i64 0] 27 ∧ X w1.heap.size ∧ (∀ j, j < w.heap.size → X j) ∧ Below w.heap.size w (w1.alloc (.cells #[pp rb, pp b, pp tb, .int .i64 0] 27)) ∧ w.heap.size ≤ w1.heap.size) := by
    refine ⟨by rw [hX]; exact hp1.grow (Go.Joins.below_alloc1 _ _), Blk.made w1 [pp rb, pp b, pp tb, .int .i64 0] 27, by rw [hX]; exact Or.inr ⟨Nat.le_refl _, by rw [World.size_alloc]; omega⟩, fun j hj => by rw [hX]; exact Or.inl hj, below_then hb1 (Go.Joins.below_alloc1 _ _), hb1.size⟩
  clear hp1 hb1 hX PC
  go_upto_region 2 with fail
  generalize (w1.alloc (.cells #[pp rb, pp b, pp tb, .int .i64 0] 27)) = w2 at F2 ⊢
  generalize w1.heap.size = B at F2 ⊢
  have XB : Hid (X B ∧ (∀ j, j < w.heap.size → X j)) := ⟨F2.out.2.2.1, F2.out.2.2.2.1⟩
  have L2 : Hid (Below w.heap.size w w2) := F2.out.2.2.2.2.1
  have BL : Hid (w.heap.size ≤ B) := F2.out.2.2.2.2.2
  have BB : Hid (Blk w2 B [pp rb, pp b, pp tb, .int .i64 0] 27) := F2.out.2.1
  have P0 : Hid (Pu X w2 (pm0 rb b tb 60) (ps0 (from1 60) 60)) := F2.out.1
  have N0 : Hid (Nums (pm0 rb b tb 60) (ps0 (from1 60) 60) 0 60 0 59) := nums0 (pm0 rb b tb 60) 60 60 (by omega) (by omega)
  clear F2
  have T2 : Hid (Tab w2) := HT.out.below L2.out WP.out
  go_wp2_with fail
  refine Calls.mono (AW.out w2 T2.out) ?_
  rintro e wq ⟨rfl, hbq⟩
  have L2' : Hid (Below w.heap.size w wq) := below_then L2.out hbq
  have BB' : Hid (Blk wq B [pp rb, pp b, pp tb, .int .i64 0] 27) := BB.out.below hbq
  have P0' : Hid (Pu X wq (pm0 rb b tb 60) (ps0 (from1 60) 60)) := P0.out.below hbq
  clear hbq L2 BB P0 T2
  have L2 := L2'
  have BB := BB'
  have P0 := P0'
  clear L2' BB' P0'
  by_cases k1 : a0 < 3
  · have d1 : decide (a0 < 3) = true := by simp [k1]
    go_wp2_with fail
    go_returns
    exact ⟨rfl, L2.out⟩
  have d1 : decide (a0 < 3) = false := by simp; omega
  by_cases k2 : 43 < a0
  · have d2 : decide (43 < a0) = true := by simp [k2]
    go_wp2_with fail
    go_returns
    exact ⟨rfl, L2.out⟩
  have d2 : decide (43 < a0) = false := by simp; omega
  have HN : Hid (3 ≤ a0 ∧ a0 ≤ 43) := ⟨by omega, by omega⟩
  clear k1 k2
  have BN : Hid (B ≠ 0) := by have := BL.out; have := WP0.out; show B ≠ 0; omega
  obtain ⟨XM, hXM⟩ : ∃ XM : Nat → Prop, XM = fun j => X j ∧ j ≠ B := ⟨_, rfl⟩
  have XMH : Hid ((∀ j, XM j → X j) ∧ (∀ j, XM j → j < wq.heap.size) ∧ (∀ j, XM j → j ≠ B) ∧ ∀ j, j < w.heap.size → XM j) := ⟨fun j hj => by rw [hXM] at hj; exact hj.1, fun j hj => by rw [hXM] at hj; exact P0.out.lt j hj.1, fun j hj => by rw [hXM] at hj; exact hj.2, fun j hj => by rw [hXM]; exact ⟨XB.out.2 j hj, by have := BL.out; omega⟩⟩
  clear hXM
  have KC : Hid (Calls Tryd.prog 11 #[.agg #[pp rb, pp b, pp tb, .int .i64 0]] wq fun e w' => ∃ (L : List Nat) (kf : Nat), e = .returned (.tuple #[.int .i64 kf, .int .i64 0]) ∧ (L.length = 2 ∧ InL (ps0 (from1 60) 60) L ∧ kf ∈ L) ∧ Wrote X wq (pm0 rb b tb 60) (ps0 (from1 60) 60) 0 L w') := by
    refine (kernel_ok P0.out (by show (1 : Int) ≤ 60; omega) 0 (N0.out.box (by omega)) (by show 0 < _; omega) (by rw [N0.out.room]; show 1 + ((60 : Int) + 262143) / 262144 ≤ 60; omega)).mono ?_
    rintro e w' ⟨L, kf, he, ⟨h1, h2⟩, hw⟩
    have h1' : (L.length : Int) = 1 + ((60 : Int) + 262143) / 262144 := h1
    exact ⟨L, kf, he, ⟨by omega, h2⟩, hw⟩
  have BX := BB.out
  have x0 : wq.cell? ⟨B, 0, none⟩ = some (pp rb) := BX.cell 0
  have x1 : wq.cell? ⟨B, 1, none⟩ = some (pp b) := BX.cell 1
  have x2 : wq.cell? ⟨B, 2, none⟩ = some (pp tb) := BX.cell 2
  have x3 : wq.cell? ⟨B, 3, none⟩ = some (.int .i64 0) := BX.cell 3
  have lB := BX.lt
  clear BX
  go_wp2_with fail
  refine Calls.mono KC.out ?_
  rintro e w3 ⟨L, kf, rfl, ⟨hl, IN, hkf⟩, M3, hp3, hk3, ho3⟩
  have B3 : Hid (Blk w3 B [pp rb, pp b, pp tb, .int .i64 0] 27) := BB.out.kx hk3 XB.out.1
  have K3 : Hid (Kx X wq w3 ∧ kf < 1048576) := ⟨hk3, by have := P0.out.so.frb kf (IN.2 kf hkf); omega⟩
  have N3 : Hid (Nums (pm0 rb b tb 60) _ 0 (60 - L.length) (0 + L.length) (59 - L.length)) := N0.out.take P0.out.so IN M3 (0 + 5000)
  obtain ⟨s3, hs3⟩ : ∃ s3 : Ps, s3 = { takeS (ps0 (from1 60) 60) 0 L with M := M3, q := 0 + 5000 } := ⟨_, rfl⟩
  have P3 : Hid (Pu X w3 (pm0 rb b tb 60) s3 ∧ s3.q = 5000) := by rw [hs3]; exact ⟨hp3, rfl⟩
  have N3' : Hid (Nums (pm0 rb b tb 60) s3 0 58 2 57) := by have q := N3.out; rw [← hs3, hl] at q; exact q
  have D3 : Hid ((s3.T 1).live = false) := by rw [hs3]; exact kid_dead
  clear hs3 hl IN hkf hp3 hk3 ho3 BB N0 P0 N3
  have BB := B3
  clear B3
  clear x0 x1 x2 x3 lB KC
  clear d1 d2
  have v1 : IntKind.i64.wrap (a0 - 2) = (a0 - 2) := by have := HN.out; simp only [IntKind.wrap_i64]; omega
  have CHC : Hid (Calls Tryd.prog 12 #[pp tb, .int .i64 0, .int .i64 (a0 - 2)] w3 fun e w' => e = .returned (.tuple #[.int .i64 1, .int .i64 0]) ∧ (Pu X w' (pm0 rb b tb 60) { s3 with T := kidT s3.T (a0 - 2) } ∧ Nums (pm0 rb b tb 60) { s3 with T := kidT s3.T (a0 - 2) } 1 (a0 - 2) 0 57) ∧ Kx X w3 w') := by
    have q := P3.out.1.child N3'.out D3.out (a0 - 2) (by have := HN.out; omega) (by have := HN.out; omega)
    exact q
  have BX := BB.out
  have x0 : w3.cell? ⟨B, 0, none⟩ = some (pp rb) := BX.cell 0
  have x1 : w3.cell? ⟨B, 1, none⟩ = some (pp b) := BX.cell 1
  have x2 : w3.cell? ⟨B, 2, none⟩ = some (pp tb) := BX.cell 2
  have x3 : w3.cell? ⟨B, 3, none⟩ = some (.int .i64 0) := BX.cell 3
  have lB := BX.lt
  clear BX
  go_wp2_with fail
  refine Calls.mono CHC.out ?_
  rintro e w4 ⟨rfl, hp4, hk4⟩
  obtain ⟨s4, hs4⟩ : ∃ s4 : Ps, s4 = { s3 with T := kidT s3.T (a0 - 2) } := ⟨_, rfl⟩
  rw [← hs4] at hp4
  have Q4 : Hid (s4.q = 5000) := by rw [hs4]; exact P3.out.2
  have b4 := BB.out.kx hk4 XB.out.1
  have hg : w4.grownBy (w4.setCell ⟨B, 3, none⟩ (.int .i64 1)) (some B) := Qu.grown_setCells B [.int .i64 1] 3 w4
  have S5 : Hid (Pu X (w4.setCell ⟨B, 3, none⟩ (.int .i64 1)) (pm0 rb b tb 60) s4 ∧ Nums (pm0 rb b tb 60) s4 1 (a0 - 2) 0 57 ∧ Kx X wq w4 ∧ w4.grownBy (w4.setCell ⟨B, 3, none⟩ (.int .i64 1)) (some B) ∧ Blk (w4.setCell ⟨B, 3, none⟩ (.int .i64 1)) B [pp rb, pp b, pp tb, .int .i64 1] 27) := ⟨hp4.1.poke XB.out.1 BN.out hg, hp4.2, K3.out.1.trans hk4, hg, b4.set 3 _⟩
  have KF : Hid (kf < 1048576) := K3.out.2
  have x3' : w4.cell? ⟨B, 3, none⟩ = some (.int .i64 0) := b4.cell 3
  have z3 : w4.frozen? ⟨B, 3, none⟩ = false := b4.free 3
  have lB' := b4.lt
  clear hp4 hk4 hs4 hg b4 CHC P3 N3' D3 K3 BB x0 x1 x2 x3 lB v1
  go_upto_region 10 with fail
  generalize w4.setCell ⟨B, 3, none⟩ (.int .i64 1) = w5 at S5 ⊢
  have K5 : Hid (Kx XM wq w5) := ⟨S5.out.2.2.2.1.os.trans S5.out.2.2.1.os, S5.out.2.2.2.1.tape.trans S5.out.2.2.1.tape, S5.out.2.2.2.1.output.trans S5.out.2.2.1.output, Nat.le_trans S5.out.2.2.1.size S5.out.2.2.2.1.size, fun j hj => by
    have xj := XMH.out.1 j hj
    refine (S5.out.2.2.2.1.block j ?_ (fun e => XMH.out.2.2.1 j hj (by have := Option.some.inj e; omega))).trans (S5.out.2.2.1.block j xj)
    exact Nat.lt_of_lt_of_le (XMH.out.2.1 j hj) S5.out.2.2.1.size⟩
  have BB : Hid (Blk w5 B [pp rb, pp b, pp tb, .int .i64 1] 27) := S5.out.2.2.2.2
  have P5 : Hid (Pu X w5 (pm0 rb b tb 60) s4 ∧ Nums (pm0 rb b tb 60) s4 1 (a0 - 2) 0 57) := ⟨S5.out.1, S5.out.2.1⟩
  clear S5 x3' z3 lB'
  have RC : Hid (Calls Tryd.prog 13 #[.agg #[pp rb, pp b, pp tb, .int .i64 1], .int .i64 kf] w5 fun e w' => ∃ root : Nat, e = .returned (.tuple #[.int .i64 root, .int .i64 0]) ∧ Rooted X w5 (pm0 rb b tb 60) s4 1 root w') := by
    have q := root_ok P5.out.1 1 (P5.out.2.box (by omega)) (by rw [Q4.out]; omega) (by rw [P5.out.2.room]; have := HN.out; omega) kf KF.out
    exact q
  have BX := BB.out
  have x0 : w5.cell? ⟨B, 0, none⟩ = some (pp rb) := BX.cell 0
  have x1 : w5.cell? ⟨B, 1, none⟩ = some (pp b) := BX.cell 1
  have x2 : w5.cell? ⟨B, 2, none⟩ = some (pp tb) := BX.cell 2
  have x3 : w5.cell? ⟨B, 3, none⟩ = some (.int .i64 1) := BX.cell 3
  have lB := BX.lt
  clear BX
  go_wp2_with fail
  refine Calls.mono RC.out ?_
  rintro e w6 ⟨root, rfl, M6, hF, hp6, hk6, hz6, _⟩
  have IN6 : InL s4 [root] := ⟨by simp, fun p hp => by simp at hp; subst hp; exact hF⟩
  have N6' : Nums (pm0 rb b tb 60) _ 1 ((a0 - 2) - ([root] : List Nat).length) (0 + ([root] : List Nat).length) (57 - ([root] : List Nat).length) := P5.out.2.take P5.out.1.so IN6 M6 (s4.q + 2)
  have R6' : Rt (pm0 rb b tb 60) _ root (tab1 root) (fun _ => none) := rt_root (k := 1) (q := s4.q + 2) P5.out.1.so hF hz6
  obtain ⟨s6, hs6⟩ : ∃ s6 : Ps, s6 = { takeS s4 1 [root] with M := M6, q := s4.q + 2 } := ⟨_, rfl⟩
  rw [← hs6] at N6' R6' hp6
  have S6 : Hid (St X (pm0 rb b tb 60) root 1 (a0 - 2) 0 57 s6 (tab1 root) (fun _ => none) w6 ∧ s6.q ≤ 6000) := ⟨⟨hp6, R6', by rw [pgs_none]; exact N6', by rw [pgs_none]; decide⟩, by rw [hs6]; show s4.q + 2 ≤ 6000; have := Q4.out; omega⟩
  have K6 : Hid (Kx XM wq w6) := K5.out.trans (hk6.sub (fun j hj => XMH.out.1 j hj))
  have B6 : Hid (Blk w6 B [pp rb, pp b, pp tb, .int .i64 1] 27) := BB.out.kx hk6 XB.out.1
  clear hF hp6 hk6 hz6 IN6 N6' R6' hs6 RC P5 K5 BB x0 x1 x2 x3 lB Q4 KF
  have BB := B6
  clear B6
  have J0 : Hid (∃ (Y : Nat → Prop) (s : Ps) (tab : Nat → Nat → Option Nat) (lf : Nat → Option Lf), Sd Y (pm0 rb b tb 60) root 1 (a0 - 2) 0 57 s tab lf (.slice (some ⟨w6.heap.size, 0, none⟩) 0 0) (w6.alloc (.cells #[] 63)) ∧ (s.q ≤ 6000 + 10 * 0 ∧ (pgs lf).length ≤ 0 ∧ ((tabsN (pgs lf) : Nat) : Int) ≤ (a0 - 2)) ∧ ((∀ j, XM j → Y j) ∧ Y B ∧ Kx XM wq (w6.alloc (.cells #[] 63)) ∧ Blk (w6.alloc (.cells #[] 63)) B [pp rb, pp b, pp tb, .int .i64 1] 27)) := by
    have hb : Below w6.heap.size w6 (w6.alloc (.cells #[] 63)) := Go.Joins.below_alloc1 _ _
    refine ⟨XW X w6 (w6.alloc (.cells #[] 63)), s6, tab1 root, fun _ => none, ⟨S6.out.1.grow hb, some ⟨w6.heap.size, 0, none⟩, 0, by rw [lvs_none]; rfl, ⟨fun i hi => ?_, fun q u e => (by cases e), (by rw [pgs_none]; simp)⟩, fun g o z e => (by cases e; exact Or.inr ⟨Nat.le_refl _, by rw [World.size_alloc]; omega⟩)⟩, ⟨S6.out.2, by rw [pgs_none]; simp, by rw [pgs_none]; have := HN.out; show ((1 : Nat) : Int) ≤ _; omega⟩, fun j hj => Or.inl (XMH.out.1 j hj), Or.inl XB.out.1, K6.out.trans ((Kx.of_below S6.out.1.pu hb).sub (fun j hj => XMH.out.1 j hj)), BB.out.below hb⟩
    rw [lvs_none] at hi
    exact absurd hi (Nat.not_lt_zero _)
  clear S6 K6 BB
  go_upto_region 14 with fail
  generalize (w6.alloc (.cells #[] 63)) = w7 at J0 ⊢
  obtain ⟨v0, hv0⟩ : ∃ v0, v0 = Value.slice (some ⟨w6.heap.size, 0, none⟩) 0 0 := ⟨_, rfl⟩
  rw [← hv0] at J0 ⊢
  clear hv0
  go_wp2_with fail
  go_loopw [11, 12, 13, 14] (fun vl vi _ _ W => ∃ i : Nat, i ≤ n1 ∧ i ≤ 30 ∧ vi = .int .i64 i ∧ Hid (∃ (Y : Nat → Prop) (s : Ps) (tab : Nat → Nat → Option Nat) (lf : Nat → Option Lf), Sd Y (pm0 rb b tb 60) root 1 (a0 - 2) 0 57 s tab lf vl W ∧ (s.q ≤ 6000 + 10 * i ∧ (pgs lf).length ≤ i ∧ ((tabsN (pgs lf) : Nat) : Int) ≤ (a0 - 2)) ∧ ((∀ j, XM j → Y j) ∧ Y B ∧ Kx XM wq W ∧ Blk W B [pp rb, pp b, pp tb, .int .i64 1] 27))) (fun _ vi _ _ _ => 30 - (Go.RowKit.intOf vi).toNat)
  case atStart => exact ⟨0, by omega, by omega, rfl, J0⟩
  case round =>
    clear J0
    obtain ⟨i, hi, hi30, rfl, HP⟩ := hrel
    have HP' := HP.out
    obtain ⟨Y, s, tab, lf, hS, hB, hX⟩ := HP'
    have HS : Hid (Sd Y (pm0 rb b tb 60) root 1 (a0 - 2) 0 57 s tab lf u11 wr) := hS
    have HB : Hid (s.q ≤ 6000 + 10 * i ∧ (pgs lf).length ≤ i ∧ ((tabsN (pgs lf) : Nat) : Int) ≤ (a0 - 2)) := hB
    have HX : Hid ((∀ j, XM j → Y j) ∧ Y B ∧ Kx XM wq wr ∧ Blk wr B [pp rb, pp b, pp tb, .int .i64 1] 27) := hX
    clear hS hB hX HP
    have LW : Hid (Below w.heap.size w wr) := by
      have q := HX.out.2.2.1
      exact L2.out.trans ⟨q.os, q.tape, q.output, q.size, fun j hj => q.block j (XMH.out.2.2.2 j hj)⟩
    by_cases hlt : i < n1 ∧ i < 30
    rotate_left
    · have hd : (decide ((i : Int) < (n1 : Int)) = false ∧ ¬ i < n1) ∨ (decide ((i : Int) < (n1 : Int)) = true ∧ decide ((i : Int) < 30) = false ∧ i < n1 ∧ ¬ i < 30) := by
        by_cases c : i < n1
        · right; simp; omega
        · left; simp; omega
      clear hlt
      rcases hd with ⟨hd, hn⟩ | ⟨hd, hd2, hn, hn2⟩
      · have BB : Hid (Blk wr B [pp rb, pp b, pp tb, .int .i64 1] 27) := HX.out.2.2.2
        obtain ⟨p, c, hv, hl, hg⟩ := HS.out.ls
        subst hv
        rw [lvs_len]
        have HSt : Hid (St Y (pm0 rb b tb 60) root 1 (a0 - 2) 0 57 s tab lf wr) := HS.out.st
        clear HS hl hg
        by_cases em : pgs lf = []
        · have DC : Hid (Calls Tryd.prog 21 #[.agg #[pp rb, pp b, pp tb, .int .i64 1], .int .i64 root] wr fun e w' => e = .returned (.int .i64 0) ∧ (Pu Y w' (pm0 rb b tb 60) (giveS s 1 root) ∧ Nums (pm0 rb b tb 60) (giveS s 1 root) 1 (a0 - 2) 0 57) ∧ Kx Y wr w') := by
            have q := HSt.out.drop (by omega) em
            exact q
          rw [em, List.length_nil]
          have BX := BB.out
          have x0 : wr.cell? ⟨B, 0, none⟩ = some (pp rb) := BX.cell 0
          have x1 : wr.cell? ⟨B, 1, none⟩ = some (pp b) := BX.cell 1
          have x2 : wr.cell? ⟨B, 2, none⟩ = some (pp tb) := BX.cell 2
          have x3 : wr.cell? ⟨B, 3, none⟩ = some (.int .i64 1) := BX.cell 3
          have lB := BX.lt
          clear BX
          go_wp2_with fail
          refine Calls.mono DC.out ?_
          rintro e w9 ⟨rfl, hD, hk9⟩
          have S9 : Hid (Pu Y w9 (pm0 rb b tb 60) (giveS s 1 root) ∧ Nums (pm0 rb b tb 60) (giveS s 1 root) 1 (a0 - 2) 0 57) := hD
          have B9 : Hid (Blk w9 B [pp rb, pp b, pp tb, .int .i64 1] 27) := BB.out.kx hk9 HX.out.2.1
          have L9 : Hid (Below w.heap.size w w9) := LW.out.trans ⟨hk9.os, hk9.tape, hk9.output, hk9.size, fun j hj => hk9.block j (HX.out.1 j (XMH.out.2.2.2 j hj))⟩
          clear hD hk9 BB x0 x1 x2 x3 lB DC HSt em
          have BB := B9
          clear B9
          have UC : Hid (Calls Tryd.prog 17 #[.agg #[pp rb, pp b, pp tb, .int .i64 1]] w9 fun e w' => e = .returned (.int .i64 0) ∧ Below w9.heap.size w9 w') := by
            have q := used_n S9.out.1 S9.out.2
            exact q
          have BX := BB.out
          have x0 : w9.cell? ⟨B, 0, none⟩ = some (pp rb) := BX.cell 0
          have x1 : w9.cell? ⟨B, 1, none⟩ = some (pp b) := BX.cell 1
          have x2 : w9.cell? ⟨B, 2, none⟩ = some (pp tb) := BX.cell 2
          have x3 : w9.cell? ⟨B, 3, none⟩ = some (.int .i64 1) := BX.cell 3
          have lB := BX.lt
          clear BX
          go_wp2_with fail
          refine Calls.mono UC.out ?_
          rintro e w10 ⟨rfl, hb10⟩
          have L10 : Hid (Below w.heap.size w w10) := below_then L9.out hb10
          clear hb10 UC BB x0 x1 x2 x3 lB S9
          go_wp2_with fail
          go_returns
          exact ⟨rfl, L10.out⟩
        · have DC : Hid (Calls Tryd.prog 21 #[.agg #[pp rb, pp b, pp tb, .int .i64 1], .int .i64 root] wr fun e w' => e = .returned (.int .i64 11) ∧ Below wr.heap.size wr w') := by
            have q := drop_busy HSt.out.pu HSt.out.rt 1 (by have := HB.out.2.1; omega) em
            exact q
          obtain ⟨ln, hln⟩ : ∃ ln, (pgs lf).length = ln := ⟨_, rfl⟩
          have l1 : 0 < ln := by rw [← hln]; exact Nat.pos_of_ne_zero (fun q => em (List.eq_nil_of_length_eq_zero q))
          rw [hln]
          have e1 : decide ((0 : Int) < (ln : Int)) = true := by simp; omega
          have e2 : ¬ ln = 0 := by omega
          clear hln em HSt
          have BX := BB.out
          have x0 : wr.cell? ⟨B, 0, none⟩ = some (pp rb) := BX.cell 0
          have x1 : wr.cell? ⟨B, 1, none⟩ = some (pp b) := BX.cell 1
          have x2 : wr.cell? ⟨B, 2, none⟩ = some (pp tb) := BX.cell 2
          have x3 : wr.cell? ⟨B, 3, none⟩ = some (.int .i64 1) := BX.cell 3
          have lB := BX.lt
          clear BX
          go_wp2_with fail
          refine Calls.mono DC.out ?_
          rintro e w9 ⟨rfl, hb9⟩
          have L9 : Hid (Below w.heap.size w w9) := below_then LW.out hb9
          clear hb9 DC BB x0 x1 x2 x3 lB
          go_wp2_with fail
          go_returns
          exact ⟨rfl, L9.out⟩
      · have BB : Hid (Blk wr B [pp rb, pp b, pp tb, .int .i64 1] 27) := HX.out.2.2.2
        obtain ⟨p, c, hv, hl, hg⟩ := HS.out.ls
        subst hv
        rw [lvs_len]
        have HSt : Hid (St Y (pm0 rb b tb 60) root 1 (a0 - 2) 0 57 s tab lf wr) := HS.out.st
        clear HS hl hg
        by_cases em : pgs lf = []
        · have DC : Hid (Calls Tryd.prog 21 #[.agg #[pp rb, pp b, pp tb, .int .i64 1], .int .i64 root] wr fun e w' => e = .returned (.int .i64 0) ∧ (Pu Y w' (pm0 rb b tb 60) (giveS s 1 root) ∧ Nums (pm0 rb b tb 60) (giveS s 1 root) 1 (a0 - 2) 0 57) ∧ Kx Y wr w') := by
            have q := HSt.out.drop (by omega) em
            exact q
          rw [em, List.length_nil]
          have BX := BB.out
          have x0 : wr.cell? ⟨B, 0, none⟩ = some (pp rb) := BX.cell 0
          have x1 : wr.cell? ⟨B, 1, none⟩ = some (pp b) := BX.cell 1
          have x2 : wr.cell? ⟨B, 2, none⟩ = some (pp tb) := BX.cell 2
          have x3 : wr.cell? ⟨B, 3, none⟩ = some (.int .i64 1) := BX.cell 3
          have lB := BX.lt
          clear BX
          go_wp2_with fail
          refine Calls.mono DC.out ?_
          rintro e w9 ⟨rfl, hD, hk9⟩
          have S9 : Hid (Pu Y w9 (pm0 rb b tb 60) (giveS s 1 root) ∧ Nums (pm0 rb b tb 60) (giveS s 1 root) 1 (a0 - 2) 0 57) := hD
          have B9 : Hid (Blk w9 B [pp rb, pp b, pp tb, .int .i64 1] 27) := BB.out.kx hk9 HX.out.2.1
          have L9 : Hid (Below w.heap.size w w9) := LW.out.trans ⟨hk9.os, hk9.tape, hk9.output, hk9.size, fun j hj => hk9.block j (HX.out.1 j (XMH.out.2.2.2 j hj))⟩
          clear hD hk9 BB x0 x1 x2 x3 lB DC HSt em
          have BB := B9
          clear B9
          have UC : Hid (Calls Tryd.prog 17 #[.agg #[pp rb, pp b, pp tb, .int .i64 1]] w9 fun e w' => e = .returned (.int .i64 0) ∧ Below w9.heap.size w9 w') := by
            have q := used_n S9.out.1 S9.out.2
            exact q
          have BX := BB.out
          have x0 : w9.cell? ⟨B, 0, none⟩ = some (pp rb) := BX.cell 0
          have x1 : w9.cell? ⟨B, 1, none⟩ = some (pp b) := BX.cell 1
          have x2 : w9.cell? ⟨B, 2, none⟩ = some (pp tb) := BX.cell 2
          have x3 : w9.cell? ⟨B, 3, none⟩ = some (.int .i64 1) := BX.cell 3
          have lB := BX.lt
          clear BX
          go_wp2_with fail
          refine Calls.mono UC.out ?_
          rintro e w10 ⟨rfl, hb10⟩
          have L10 : Hid (Below w.heap.size w w10) := below_then L9.out hb10
          clear hb10 UC BB x0 x1 x2 x3 lB S9
          go_wp2_with fail
          go_returns
          exact ⟨rfl, L10.out⟩
        · have DC : Hid (Calls Tryd.prog 21 #[.agg #[pp rb, pp b, pp tb, .int .i64 1], .int .i64 root] wr fun e w' => e = .returned (.int .i64 11) ∧ Below wr.heap.size wr w') := by
            have q := drop_busy HSt.out.pu HSt.out.rt 1 (by have := HB.out.2.1; omega) em
            exact q
          obtain ⟨ln, hln⟩ : ∃ ln, (pgs lf).length = ln := ⟨_, rfl⟩
          have l1 : 0 < ln := by rw [← hln]; exact Nat.pos_of_ne_zero (fun q => em (List.eq_nil_of_length_eq_zero q))
          rw [hln]
          have e1 : decide ((0 : Int) < (ln : Int)) = true := by simp; omega
          have e2 : ¬ ln = 0 := by omega
          clear hln em HSt
          have BX := BB.out
          have x0 : wr.cell? ⟨B, 0, none⟩ = some (pp rb) := BX.cell 0
          have x1 : wr.cell? ⟨B, 1, none⟩ = some (pp b) := BX.cell 1
          have x2 : wr.cell? ⟨B, 2, none⟩ = some (pp tb) := BX.cell 2
          have x3 : wr.cell? ⟨B, 3, none⟩ = some (.int .i64 1) := BX.cell 3
          have lB := BX.lt
          clear BX
          go_wp2_with fail
          refine Calls.mono DC.out ?_
          rintro e w9 ⟨rfl, hb9⟩
          have L9 : Hid (Below w.heap.size w w9) := below_then LW.out hb9
          clear hb9 DC BB x0 x1 x2 x3 lB
          go_wp2_with fail
          go_returns
          exact ⟨rfl, L9.out⟩
    obtain ⟨hlt, hlt2⟩ := hlt
    have hd : decide ((i : Int) < (n1 : Int)) = true := by simp; omega
    have hd2 : decide ((i : Int) < 30) = true := by simp; omega
    have hd0 : decide ((i : Int) < 0) = false := by simp
    obtain ⟨b1, b2⟩ := HN.out
    obtain ⟨bq, oq, rfl, lq, y0, y1, y2, y3, y4, y5, gx⟩ := (HA.out.below LW.out) i hlt
    have XQ : Hid (Y bq) := by
      obtain ⟨b', o', e', l', _⟩ := HA.out i hlt
      cases e'
      exact HX.out.1 _ (XMH.out.2.2.2 _ l')
    have XB4 : Hid (Y B) := HX.out.2.1
    generalize A1 i = st at y0 y1 y2 y3 y4 y5 gx
    obtain ⟨kd, pg, fg, qa, qb, qc⟩ := st
    simp only at y0 y1 y2 y3 y4 y5 gx
    have SZ : Hid ((fun cw => Blk cw B [pp rb, pp b, pp tb, .int .i64 1] 27 ∧ cw.cell? ⟨bq, oq + i * 6 + 0, none⟩ = some (.int .i64 kd) ∧ cw.cell? ⟨bq, oq + i * 6 + 1, none⟩ = some (.int .i64 pg) ∧ cw.cell? ⟨bq, oq + i * 6 + 2, none⟩ = some (.int .i64 fg) ∧ cw.cell? ⟨bq, oq + i * 6 + 3, none⟩ = some (.bool qa) ∧ cw.cell? ⟨bq, oq + i * 6 + 4, none⟩ = some (.bool qb) ∧ cw.cell? ⟨bq, oq + i * 6 + 5, none⟩ = some (.bool qc)) wr) := ⟨HX.out.2.2.2, y0, y1, y2, y3, y4, y5⟩
    clear y0 y1 y2 y3 y4 y5 gx
    obtain ⟨t0, ht⟩ : ∃ t0, tabsN (pgs lf) = t0 := ⟨_, rfl⟩
    obtain ⟨p, c, hv, hl, hg⟩ := HS.out.ls
    subst hv
    obtain ⟨ln, hln⟩ : ∃ ln, (lvs lf).length = ln := ⟨_, rfl⟩
    obtain ⟨lm, hlm⟩ : ∃ lm, (pgs lf).length = lm := ⟨_, rfl⟩
    have NC : Hid (∀ W : World, Below wr.heap.size wr W → Calls Tryd.prog 16 #[.slice p ln c] W fun e w' => ∃ (q : Option Addr) (d : Nat), e = .returned (.slice q lm d) ∧ IsN w' q (pgs lf) ∧ Below W.heap.size W w') := fun W hb => by
      have q := (hl.below hb).numbers c
      rw [hln, hlm] at q
      exact q
    have TC : Hid (∀ (W : World) (q : Option Addr) (d : Nat), IsN W q (pgs lf) → Calls Tryd.prog 15 #[.slice q lm d] W fun e w' => e = .returned (.int .i64 (t0 : Nat)) ∧ Below W.heap.size W w') := fun W q d hN => by
      have r := tables_c hl.bd (by have := hl.le; omega) hN d
      rw [hlm, ht] at r
      exact r
    have t0b : t0 ≤ 41 := by have := HB.out.2.2; rw [ht] at this; omega
    have DC : Hid (∀ W : World, Below wr.heap.size wr W → Calls Tryd.prog 14 #[.agg #[pp rb, pp b, pp tb, .int .i64 1], .int .i64 root, .slice p ln c, .agg #[.int .i64 kd, .int .i64 pg, .int .i64 fg, .bool qa, .bool qb, .bool qc], .int .i64 (a0 - 2 - (t0 : Int))] W fun e w' => ∃ v', e = .returned (.tuple #[v', .bool true]) ∧ (∃ (Y2 : Nat → Prop) (s2 : Ps) (tab2 : Nat → Nat → Option Nat) (lf2 : Nat → Option Lf), Sd Y2 (pm0 rb b tb 60) root 1 (a0 - 2) 0 57 s2 tab2 lf2 v' w' ∧ (s2.q ≤ 6000 + 10 * (i + 1) ∧ (pgs lf2).length ≤ (i + 1) ∧ ((tabsN (pgs lf2) : Nat) : Int) ≤ (a0 - 2)) ∧ ((∀ j, XM j → Y2 j) ∧ Y2 B ∧ Kx XM wq w' ∧ Blk w' B [pp rb, pp b, pp tb, .int .i64 1] 27)) ∧ Kx Y W w') := fun W hb => by
      have q := does_any (sd_drew HS.out hb) (by omega) (by have := HB.out.1; omega) (Or.inl (by omega)) (by have := HB.out.2.2; exact this) (by have := HB.out.2.1; omega) (a0 - 2 - (t0 : Int)) (fun x => by rw [ht]; push_cast; omega) kd pg fg qa qb qc
      rw [hln] at q
      refine Calls.mono q ?_
      rintro e w' ⟨v', he, Y2, s2, tab2, lf2, hY, hS2, hq2, hn2, _, hk2, hT2⟩
      refine ⟨v', he, ⟨Y2, s2, tab2, lf2, hS2, ⟨by have := HB.out.1; omega, by have := HB.out.2.1; omega, hT2 HB.out.2.2⟩, fun j hj => hY j (HX.out.1 j hj), hY B HX.out.2.1, ?_, ?_⟩, hk2⟩
      · exact HX.out.2.2.1.trans (((Kx.of_below HS.out.st.pu hb).trans hk2).sub (fun j hj => HX.out.1 j hj))
      · exact (HX.out.2.2.2.below hb).kx hk2 HX.out.2.1
    rw [hln]
    clear hl hg hln hlm ht
    have HSc : Hid True := trivial
    clear HS HX HB LW
    go_upto_region 17 with fail
    refine wp_region_noPanic ?_
    refine wp_region_held_drew (S := fun cw => Blk cw B [pp rb, pp b, pp tb, .int .i64 1] 27 ∧ cw.cell? ⟨bq, oq + i * 6 + 0, none⟩ = some (.int .i64 kd) ∧ cw.cell? ⟨bq, oq + i * 6 + 1, none⟩ = some (.int .i64 pg) ∧ cw.cell? ⟨bq, oq + i * 6 + 2, none⟩ = some (.int .i64 fg) ∧ cw.cell? ⟨bq, oq + i * 6 + 3, none⟩ = some (.bool qa) ∧ cw.cell? ⟨bq, oq + i * 6 + 4, none⟩ = some (.bool qb) ∧ cw.cell? ⟨bq, oq + i * 6 + 5, none⟩ = some (.bool qc)) (by kernel_rfl) ?_ (fun hHeld => ?_)
    · exact SZ.out
    have GU : Hid (Below wr.heap.size wr wr.drew) := below_dr wr
    have LQ : Hid (bq < wr.drew.heap.size) := lq
    clear SZ lq
    generalize wr.drew = U at hHeld GU LQ ⊢
    refine wpAnyH_take (i := 0) (oi := ⟨some 72, _, _, _, _, none⟩) (v := (.agg #[pp rb, pp b, pp tb, .int .i64 1])) rfl (by kernel_rfl) (by kernel_rfl) (by kernel_rfl) (fun _ _ _ h => h) (Or.inl ⟨by rfl, ?_⟩) (by assumption) ?_
    · intro w hSw; (try dsimp only at hSw); have r0 := Blk.cell hSw.1 0; have r1 := Blk.cell hSw.1 1; have r2 := Blk.cell hSw.1 2; have r3 := Blk.cell hSw.1 3; (try go_simp); (try simp [*])
    try simp only [Act.put, List.setIfInBounds_toArray, List.set_cons_zero, List.set_cons_succ]
    refine wpAnyH_take (i := 1) (oi := ⟨some 73, _, _, _, _, none⟩) (v := ?_) rfl (by kernel_rfl) (by kernel_rfl) (by kernel_rfl) (fun _ _ _ h => h) (Or.inl ⟨by rfl, ?_⟩) (by assumption) ?_
    rotate_left
    · intro w hSw; (try dsimp only at hSw); go_simp; (try with_reducible rfl)
    try simp only [Act.put, List.setIfInBounds_toArray, List.set_cons_zero, List.set_cons_succ]
    refine wpAnyH_take (i := 2) (oi := ⟨some 74, _, _, _, _, none⟩) (v := ?_) rfl (by kernel_rfl) (by kernel_rfl) (by kernel_rfl) (fun _ _ _ h => h) (Or.inl ⟨by rfl, ?_⟩) (by assumption) ?_
    rotate_left
    · intro w hSw; (try dsimp only at hSw); go_simp; (try with_reducible rfl)
    try simp only [Act.put, List.setIfInBounds_toArray, List.set_cons_zero, List.set_cons_succ]
    refine wpAnyH_take (i := 3) (oi := ⟨some 75, _, _, _, _, none⟩) (v := ?_) rfl (by kernel_rfl) (by kernel_rfl) (by kernel_rfl) (fun _ _ _ h => h) (Or.inl ⟨by rfl, ?_⟩) (by assumption) ?_
    rotate_left
    · intro w hSw; (try dsimp only at hSw); go_simp; (try with_reducible rfl)
    try simp only [Act.put, List.setIfInBounds_toArray, List.set_cons_zero, List.set_cons_succ]
    refine wpAnyH_take (i := 4) (oi := ⟨some 76, _, _, _, _, none⟩) (v := ?_) rfl (by kernel_rfl) (by kernel_rfl) (by kernel_rfl) (fun _ _ _ h => h) (Or.inl ⟨by rfl, ?_⟩) (by assumption) ?_
    rotate_left
    · intro w hSw; (try dsimp only at hSw); go_simp; (try with_reducible rfl)
    try simp only [Act.put, List.setIfInBounds_toArray, List.set_cons_zero, List.set_cons_succ]
    refine wpAnyH_take (i := 5) (oi := ⟨some 77, _, _, _, _, none⟩) (v := ?_) rfl (by kernel_rfl) (by kernel_rfl) (by kernel_rfl) (fun _ _ _ h => h) (Or.inl ⟨by rfl, ?_⟩) (by assumption) ?_
    rotate_left
    · intro w hSw; (try dsimp only at hSw); go_simp; (try with_reducible rfl)
    try simp only [Act.put, List.setIfInBounds_toArray, List.set_cons_zero, List.set_cons_succ]
    refine wpAnyH_take (i := 6) (oi := ⟨some 78, _, _, _, _, none⟩) (v := (.agg #[.int .i64 kd, .int .i64 pg, .int .i64 fg, .bool qa, .bool qb, .bool qc])) rfl (by kernel_rfl) (by kernel_rfl) (by kernel_rfl) (fun _ _ _ h => h) (Or.inl ⟨by rfl, ?_⟩) (by assumption) ?_
    · intro w hSw; (try dsimp only at hSw); have r0 : w.cell? ⟨bq, oq + i * 6, none⟩ = some (.int .i64 kd) := hSw.2.1; have r1 := hSw.2.2.1; have r2 := hSw.2.2.2.1; have r3 := hSw.2.2.2.2.1; have r4 := hSw.2.2.2.2.2.1; have r5 := hSw.2.2.2.2.2.2; (try go_simp); (try simp [*])
    try simp only [Act.put, List.setIfInBounds_toArray, List.set_cons_zero, List.set_cons_succ]
    refine wpAnyH_take (i := 7) (oi := ⟨some 79, _, _, _, _, none⟩) (v := ?_) rfl (by kernel_rfl) (by kernel_rfl) (by kernel_rfl) (fun _ _ _ h => h) (Or.inl ⟨by rfl, ?_⟩) (by assumption) ?_
    rotate_left
    · intro w hSw; (try dsimp only at hSw); go_simp; (try with_reducible rfl)
    try simp only [Act.put, List.setIfInBounds_toArray, List.set_cons_zero, List.set_cons_succ]
    refine wpAnyH_take (i := 8) (oi := ⟨some 80, _, _, _, _, none⟩) (v := (.int .i64 (a0 - 2))) rfl (by kernel_rfl) (by kernel_rfl) (by kernel_rfl) (fun _ _ _ h => h) (Or.inl ⟨by rfl, ?_⟩) (by assumption) ?_
    · intro w hSw; (try dsimp only at hSw); go_simp; (try simp); (try (simp only [IntKind.wrap_i64]; omega))
    try simp only [Act.put, List.setIfInBounds_toArray, List.set_cons_zero, List.set_cons_succ]
    refine wpAnyH_take (i := 9) (oi := ⟨some 81, _, _, _, _, none⟩) (v := ?_) rfl (by kernel_rfl) (by kernel_rfl) (by kernel_rfl) (fun _ _ _ h => h) (Or.inl ⟨by rfl, ?_⟩) (by assumption) ?_
    rotate_left
    · intro w hSw; (try dsimp only at hSw); go_simp; (try with_reducible rfl)
    try simp only [Act.put, List.setIfInBounds_toArray, List.set_cons_zero, List.set_cons_succ]
    refine wpAnyH_ready (rs := [10]) (by kernel_rfl) (by simp) ?_
    refine AllReadyH.cons (o := ⟨some 82, _, _, _, _, none⟩) rfl (fun K hK => ?_) AllReadyH.nil
    go_simp
    go_wp2_with (go_at_call 16; refine Calls.mono (NC.out _ GU.out) ?_; rintro e u2 ⟨q2, d2, rfl, hN2, hb2⟩)
    have G2 : Hid (Below wr.heap.size wr u2) := below_then GU.out hb2
    have HN2 : Hid (IsN u2 q2 (pgs lf)) := hN2
    have LQ2 : Hid (bq < u2.heap.size) := Nat.lt_of_lt_of_le LQ.out hb2.size
    refine hK.out _ _ ⟨hHeld.1.below hb2, below_cell hb2 LQ.out (hHeld.2.1), below_cell hb2 LQ.out (hHeld.2.2.1), below_cell hb2 LQ.out (hHeld.2.2.2.1), below_cell hb2 LQ.out (hHeld.2.2.2.2.1), below_cell hb2 LQ.out (hHeld.2.2.2.2.2.1), below_cell hb2 LQ.out (hHeld.2.2.2.2.2.2)⟩ (fun hHeld2 => ?_)
    clear hK K hHeld hb2 hN2 GU
    have hHeld := hHeld2
    clear hHeld2
    try simp only [Act.put, List.setIfInBounds_toArray, List.set_cons_zero, List.set_cons_succ]
    refine wpAnyH_ready (rs := [11]) (by kernel_rfl) (by simp) ?_
    refine AllReadyH.cons (o := ⟨some 83, _, _, _, _, none⟩) rfl (fun K hK => ?_) AllReadyH.nil
    go_simp
    go_wp2_with (go_at_call 15; refine Calls.mono (TC.out _ q2 d2 HN2.out) ?_; rintro e u3 ⟨rfl, hb3⟩)
    have G3 : Hid (Below wr.heap.size wr u3) := below_then G2.out hb3
    have LQ3 : Hid (bq < u3.heap.size) := Nat.lt_of_lt_of_le LQ2.out hb3.size
    refine hK.out _ _ ⟨hHeld.1.below hb3, below_cell hb3 LQ2.out (hHeld.2.1), below_cell hb3 LQ2.out (hHeld.2.2.1), below_cell hb3 LQ2.out (hHeld.2.2.2.1), below_cell hb3 LQ2.out (hHeld.2.2.2.2.1), below_cell hb3 LQ2.out (hHeld.2.2.2.2.2.1), below_cell hb3 LQ2.out (hHeld.2.2.2.2.2.2)⟩ (fun hHeld2 => ?_)
    clear hK K hHeld hb3 G2 HN2 LQ
    have hHeld := hHeld2
    clear hHeld2
    try simp only [Act.put, List.setIfInBounds_toArray, List.set_cons_zero, List.set_cons_succ]
    refine wpAnyH_take (i := 12) (oi := ⟨some 84, _, _, _, _, none⟩) (v := (.int .i64 (a0 - 2 - (t0 : Int)))) rfl (by kernel_rfl) (by kernel_rfl) (by kernel_rfl) (fun _ _ _ h => h) (Or.inl ⟨by rfl, ?_⟩) (by assumption) ?_
    · intro w hSw; (try dsimp only at hSw); go_simp; (try simp); (try (simp only [IntKind.wrap_i64]; omega))
    try simp only [Act.put, List.setIfInBounds_toArray, List.set_cons_zero, List.set_cons_succ]
    refine wpAnyH_ready (rs := [13]) (by kernel_rfl) (by simp) ?_
    refine AllReadyH.cons (o := ⟨some 85, _, _, _, _, none⟩) rfl (fun K hK => ?_) AllReadyH.nil
    go_simp
    go_wp2_with (go_at_call 14; refine Calls.mono (DC.out _ G3.out) ?_; rintro e u4 ⟨v4, rfl, hQ4, hk4⟩)
    have G4 : Hid (∃ (Y2 : Nat → Prop) (s2 : Ps) (tab2 : Nat → Nat → Option Nat) (lf2 : Nat → Option Lf), Sd Y2 (pm0 rb b tb 60) root 1 (a0 - 2) 0 57 s2 tab2 lf2 v4 u4 ∧ (s2.q ≤ 6000 + 10 * (i + 1) ∧ (pgs lf2).length ≤ (i + 1) ∧ ((tabsN (pgs lf2) : Nat) : Int) ≤ (a0 - 2)) ∧ ((∀ j, XM j → Y2 j) ∧ Y2 B ∧ Kx XM wq u4 ∧ Blk u4 B [pp rb, pp b, pp tb, .int .i64 1] 27)) := hQ4
    have hkc : ∀ j, u4.cell? ⟨bq, j, none⟩ = u3.cell? ⟨bq, j, none⟩ := fun j => World.cell?_of_block (hk4.block bq XQ.out)
    refine hK.out _ _ ⟨hHeld.1.kx hk4 XB4.out, (hkc _).trans hHeld.2.1, (hkc _).trans hHeld.2.2.1, (hkc _).trans hHeld.2.2.2.1, (hkc _).trans hHeld.2.2.2.2.1, (hkc _).trans hHeld.2.2.2.2.2.1, (hkc _).trans hHeld.2.2.2.2.2.2⟩ (fun hHeld2 => ?_)
    clear hK K hHeld hQ4 hk4 hkc G3 LQ2 LQ3
    have hHeld := hHeld2
    clear hHeld2
    try simp only [Act.put, List.setIfInBounds_toArray, List.set_cons_zero, List.set_cons_succ]
    refine wpAnyH_take (i := 14) (oi := ⟨some 71, _, _, _, _, none⟩) (v := ?_) rfl (by kernel_rfl) (by kernel_rfl) (by kernel_rfl) (fun _ _ _ h => h) (Or.inl ⟨by rfl, ?_⟩) (by assumption) ?_
    rotate_left
    · intro w hSw; (try dsimp only at hSw); go_simp; (try with_reducible rfl)
    try simp only [Act.put, List.setIfInBounds_toArray, List.set_cons_zero, List.set_cons_succ]
    refine wpAnyH_take (i := 15) (oi := ⟨some 86, _, _, _, _, none⟩) (v := ?_) rfl (by kernel_rfl) (by kernel_rfl) (by kernel_rfl) (fun _ _ _ h => h) (Or.inl ⟨by rfl, ?_⟩) (by assumption) ?_
    rotate_left
    · intro w hSw; (try dsimp only at hSw); go_simp; (try with_reducible rfl)
    try simp only [Act.put, List.setIfInBounds_toArray, List.set_cons_zero, List.set_cons_succ]
    refine wpAnyH_take (i := 16) (oi := ⟨some 87, _, _, _, _, none⟩) (v := ?_) rfl (by kernel_rfl) (by kernel_rfl) (by kernel_rfl) (fun _ _ _ h => h) (Or.inl ⟨by rfl, ?_⟩) (by assumption) ?_
    rotate_left
    · intro w hSw; (try dsimp only at hSw); go_simp; (try with_reducible rfl)
    try simp only [Act.put, List.setIfInBounds_toArray, List.set_cons_zero, List.set_cons_succ]
    refine wpAnyH_take (i := 17) (oi := ⟨some 13, _, _, _, _, none⟩) (v := ?_) rfl (by kernel_rfl) (by kernel_rfl) (by kernel_rfl) (fun _ _ _ h => h) (Or.inl ⟨by rfl, ?_⟩) (by assumption) ?_
    rotate_left
    · intro w hSw; (try dsimp only at hSw); go_simp; (try with_reducible rfl)
    try simp only [Act.put, List.setIfInBounds_toArray, List.set_cons_zero, List.set_cons_succ]
    refine wpAnyH_take (i := 18) (oi := ⟨some 14, _, _, _, _, none⟩) (v := ?_) rfl (by kernel_rfl) (by kernel_rfl) (by kernel_rfl) (fun _ _ _ h => h) (Or.inl ⟨by rfl, ?_⟩) (by assumption) ?_
    rotate_left
    · intro w hSw; (try dsimp only at hSw); go_simp; (try with_reducible rfl)
    try simp only [Act.put, List.setIfInBounds_toArray, List.set_cons_zero, List.set_cons_succ]
    clear hHeld
    refine wpAnyH_done (by kernel_rfl) ?_ _
    refine NoPanic.normal ?_
    go_upto_region 19 with fail
    obtain ⟨Y2, s2, tab2, lf2, hS2, hB2, hX2⟩ := G4.out
    have HS2 : Hid (Sd Y2 (pm0 rb b tb 60) root 1 (a0 - 2) 0 57 s2 tab2 lf2 v4 u4) := hS2
    have HBX : Hid ((s2.q ≤ 6000 + 10 * (i + 1) ∧ (pgs lf2).length ≤ i + 1 ∧ ((tabsN (pgs lf2) : Nat) : Int) ≤ (a0 - 2)) ∧ ((∀ j, XM j → Y2 j) ∧ Y2 B ∧ Kx XM wq u4 ∧ Blk u4 B [pp rb, pp b, pp tb, .int .i64 1] 27)) := ⟨hB2, hX2⟩
    clear hS2 hB2 hX2 G4 NC TC DC
    generalize u4 = w8 at *
    have BB8 : Hid (Blk w8 B [pp rb, pp b, pp tb, .int .i64 1] 27) := HBX.out.2.2.2.2
    obtain ⟨t1, ht⟩ : ∃ t1, tabsN (pgs lf2) = t1 := ⟨_, rfl⟩
    obtain ⟨p', c', hv, hl, hg⟩ := HS2.out.ls
    subst hv
    obtain ⟨ln2, hln⟩ : ∃ ln2, (lvs lf2).length = ln2 := ⟨_, rfl⟩
    obtain ⟨lm2, hlm⟩ : ∃ lm2, (pgs lf2).length = lm2 := ⟨_, rfl⟩
    have t1b : t1 ≤ 41 := by have := HBX.out.1.2.2; rw [ht] at this; omega
    obtain ⟨fz, hfz⟩ : ∃ fz : Int, fz = 57 - (t1 : Int) := ⟨_, rfl⟩
    have NC8 : Hid (∀ W : World, Below w8.heap.size w8 W → Calls Tryd.prog 16 #[.slice p' ln2 c'] W fun e w' => ∃ (q : Option Addr) (d : Nat), e = .returned (.slice q lm2 d) ∧ IsN w' q (pgs lf2) ∧ Below W.heap.size W w') := fun W hb => by
      have q := (hl.below hb).numbers c'
      rw [hln, hlm] at q
      exact q
    have TC8 : Hid (∀ (W : World) (q : Option Addr) (d : Nat), IsN W q (pgs lf2) → Calls Tryd.prog 15 #[.slice q lm2 d] W fun e w' => e = .returned (.int .i64 (t1 : Nat)) ∧ Below W.heap.size W w') := fun W q d hN => by
      have r := tables_c hl.bd (by have := hl.le; omega) hN d
      rw [hlm, ht] at r
      exact r
    have UC : Hid (∀ W : World, Below w8.heap.size w8 W → Calls Tryd.prog 17 #[.agg #[pp rb, pp b, pp tb, .int .i64 1]] W fun e w' => e = .returned (.int .i64 (t1 : Nat)) ∧ Below W.heap.size W w') := fun W hb => by
      have q := (HS2.out.st.below hb).used
      rw [ht, Int.zero_add] at q
      exact q
    have FC : Hid (∀ W : World, Below w8.heap.size w8 W → Calls Tryd.prog 18 #[pp b] W fun e w' => e = .returned (.int .i64 fz) ∧ w' = W) := fun W hb => by
      have q := (HS2.out.st.below hb).free
      rw [ht, show ((57 - t1 : Nat) : Int) = fz by omega] at q
      exact q
    have PGC : Hid (∀ W : World, Below w8.heap.size w8 W → Calls Tryd.prog 20 #[.agg #[pp rb, pp b, pp tb, .int .i64 1], .int .i64 root] W fun e w' => ∃ (pf : Option Addr) (cf : Nat), e = .returned (.slice pf lm2 cf) ∧ IsN w' pf (pgs lf2) ∧ Below W.heap.size W w') := fun W hb => by
      have q := (HS2.out.st.below hb).pages (by have := hl.le; omega)
      refine Calls.mono q ?_
      rintro e w' ⟨pf, n, cf, rfl, hL⟩
      have hn := hL.len
      rw [hlm] at hn
      subst hn
      obtain ⟨pf', cf', e', hN⟩ := oi_read hL.own
      cases e'
      exact ⟨pf, cf, rfl, hN, hL.bel⟩
    have SC : Hid (∀ (W : World) (q1 q2 : Option Addr) (d1 d2 : Nat), IsN W q1 (pgs lf2) → IsN W q2 (pgs lf2) → Calls Tryd.prog 19 #[.slice q1 lm2 d1, .slice q2 lm2 d2] W fun e w' => e = .returned (.bool true) ∧ Below W.heap.size W w') := fun W q1 q2 d1 d2 h1 h2 => by
      have q := same_c q1 q2 d1 d2 (pgs lf2) W h1 h2 (by have := hl.le; omega)
      rw [hlm] at q
      exact q
    have z1 : ((t1 : Int) != (t1 : Int)) = false := by simp
    have z2 : (fz != fz) = false := by simp
    have z3 : IntKind.i64.wrap (57 - (t1 : Int)) = fz := by simp only [IntKind.wrap_i64]; omega
    have HSV : Hid (Sd Y2 (pm0 rb b tb 60) root 1 (a0 - 2) 0 57 s2 tab2 lf2 (.slice p' ln2 c') w8) := by rw [← hln]; exact HS2.out
    rw [hln]
    clear hl hg hln hlm ht hfz
    refine wp_region_noPanic ?_
    refine wp_region_held_drew (S := fun cw => Blk cw B [pp rb, pp b, pp tb, .int .i64 1] 27) (by kernel_rfl) ?_ (fun hHeld => ?_)
    · exact BB8.out
    have GU : Hid (Below w8.heap.size w8 w8.drew) := below_dr w8
    generalize w8.drew = U at hHeld GU ⊢
    refine wpAnyH_take (i := 0) (oi := ⟨some 89, _, _, _, _, none⟩) (v := ?_) rfl (by kernel_rfl) (by kernel_rfl) (by kernel_rfl) (fun _ _ _ h => h) (Or.inl ⟨by rfl, ?_⟩) (by assumption) ?_
    rotate_left
    · intro w hSw; (try dsimp only at hSw); go_simp; (try with_reducible rfl)
    try simp only [Act.put, List.setIfInBounds_toArray, List.set_cons_zero, List.set_cons_succ]
    refine wpAnyH_take (i := 1) (oi := ⟨some 90, _, _, _, _, none⟩) (v := (.bool false)) rfl (by kernel_rfl) (by kernel_rfl) (by kernel_rfl) (fun _ _ _ h => h) (Or.inl ⟨by rfl, ?_⟩) (by assumption) ?_
    · intro w hSw; (try dsimp only at hSw); go_simp; (try simp); (try (simp only [IntKind.wrap_i64]; omega))
    try simp only [Act.put, List.setIfInBounds_toArray, List.set_cons_zero, List.set_cons_succ]
    refine wpAnyH_take (i := 2) (oi := ⟨some 91, _, _, _, _, none⟩) (v := ?_) rfl (by kernel_rfl) (by kernel_rfl) (by kernel_rfl) (fun _ _ _ h => h) (Or.inl ⟨by rfl, ?_⟩) (by assumption) ?_
    rotate_left
    · intro w hSw; (try dsimp only at hSw); go_simp; (try with_reducible rfl)
    try simp only [Act.put, List.setIfInBounds_toArray, List.set_cons_zero, List.set_cons_succ]
    refine wpAnyH_take (i := 3) (oi := ⟨some 92, _, _, _, _, some (2, false)⟩) (v := (.agg #[pp rb, pp b, pp tb, .int .i64 1])) rfl (by kernel_rfl) (by kernel_rfl) (by kernel_rfl) (fun _ _ _ h => h) (Or.inl ⟨by rfl, ?_⟩) (by assumption) ?_
    · intro w hSw; (try dsimp only at hSw); have r0 := Blk.cell hSw 0; have r1 := Blk.cell hSw 1; have r2 := Blk.cell hSw 2; have r3 := Blk.cell hSw 3; (try go_simp); (try simp [*])
    try simp only [Act.put, List.setIfInBounds_toArray, List.set_cons_zero, List.set_cons_succ]
    refine wpAnyH_take (i := 5) (oi := ⟨some 94, _, _, _, _, some (2, false)⟩) (v := ?_) rfl (by kernel_rfl) (by kernel_rfl) (by kernel_rfl) (fun _ _ _ h => h) (Or.inl ⟨by rfl, ?_⟩) (by assumption) ?_
    rotate_left
    · intro w hSw; (try dsimp only at hSw); go_simp; (try with_reducible rfl)
    try simp only [Act.put, List.setIfInBounds_toArray, List.set_cons_zero, List.set_cons_succ]
    refine wpAnyH_ready (rs := [4]) (by kernel_rfl) (by simp) ?_
    refine AllReadyH.cons (o := ⟨some 93, _, _, _, _, some (2, false)⟩) rfl (fun K hK => ?_) AllReadyH.nil
    go_simp
    go_wp2_with (go_at_call 17; refine Calls.mono (UC.out _ GU.out) ?_; rintro e u1 ⟨rfl, hb1⟩)
    have G1 : Hid (Below w8.heap.size w8 u1) := below_then GU.out hb1
    refine hK.out _ _ (hHeld.below hb1) (fun hHeld2 => ?_)
    clear hK K hHeld hb1 GU
    have hHeld := hHeld2
    clear hHeld2
    try simp only [Act.put, List.setIfInBounds_toArray, List.set_cons_zero, List.set_cons_succ]
    refine wpAnyH_ready (rs := [6]) (by kernel_rfl) (by simp) ?_
    refine AllReadyH.cons (o := ⟨some 95, _, _, _, _, some (2, false)⟩) rfl (fun K hK => ?_) AllReadyH.nil
    go_simp
    go_wp2_with (go_at_call 16; refine Calls.mono (NC8.out _ G1.out) ?_; rintro e u2 ⟨q2, d2, rfl, hN2, hb2⟩)
    have G2 : Hid (Below w8.heap.size w8 u2) := below_then G1.out hb2
    have HN2 : Hid (IsN u2 q2 (pgs lf2)) := hN2
    refine hK.out _ _ (hHeld.below hb2) (fun hHeld2 => ?_)
    clear hK K hHeld hb2 hN2 G1
    have hHeld := hHeld2
    clear hHeld2
    try simp only [Act.put, List.setIfInBounds_toArray, List.set_cons_zero, List.set_cons_succ]
    refine wpAnyH_ready (rs := [7]) (by kernel_rfl) (by simp) ?_
    refine AllReadyH.cons (o := ⟨some 96, _, _, _, _, some (2, false)⟩) rfl (fun K hK => ?_) AllReadyH.nil
    go_simp
    go_wp2_with (go_at_call 15; refine Calls.mono (TC8.out _ q2 d2 HN2.out) ?_; rintro e u3 ⟨rfl, hb3⟩)
    have G3 : Hid (Below w8.heap.size w8 u3) := below_then G2.out hb3
    refine hK.out _ _ (hHeld.below hb3) (fun hHeld2 => ?_)
    clear hK K hHeld hb3 G2 HN2
    have hHeld := hHeld2
    clear hHeld2
    try simp only [Act.put, List.setIfInBounds_toArray, List.set_cons_zero, List.set_cons_succ]
    refine wpAnyH_take (i := 8) (oi := ⟨some 97, _, _, _, _, some (2, false)⟩) (v := (.bool false)) rfl (by kernel_rfl) (by kernel_rfl) (by kernel_rfl) (fun _ _ _ h => h) (Or.inl ⟨by rfl, ?_⟩) (by assumption) ?_
    · intro w hSw; (try dsimp only at hSw); go_simp; (try simp); (try (simp only [IntKind.wrap_i64]; omega))
    try simp only [Act.put, List.setIfInBounds_toArray, List.set_cons_zero, List.set_cons_succ]
    refine wpAnyH_take (i := 9) (oi := ⟨some 98, _, _, _, _, none⟩) (v := (.bool false)) rfl (by kernel_rfl) (by kernel_rfl) (by kernel_rfl) (fun _ _ _ h => h) (Or.inl ⟨by rfl, ?_⟩) (by assumption) ?_
    · intro w hSw; (try dsimp only at hSw); go_simp; (try simp); (try (simp only [IntKind.wrap_i64]; omega))
    try simp only [Act.put, List.setIfInBounds_toArray, List.set_cons_zero, List.set_cons_succ]
    refine wpAnyH_take (i := 10) (oi := ⟨some 99, _, _, _, _, none⟩) (v := ?_) rfl (by kernel_rfl) (by kernel_rfl) (by kernel_rfl) (fun _ _ _ h => h) (Or.inl ⟨by rfl, ?_⟩) (by assumption) ?_
    rotate_left
    · intro w hSw; (try dsimp only at hSw); go_simp; (try with_reducible rfl)
    try simp only [Act.put, List.setIfInBounds_toArray, List.set_cons_zero, List.set_cons_succ]
    refine wpAnyH_take (i := 11) (oi := ⟨some 100, _, _, _, _, some (10, false)⟩) (v := ?_) rfl (by kernel_rfl) (by kernel_rfl) (by kernel_rfl) (fun _ _ _ h => h) (Or.inl ⟨by rfl, ?_⟩) (by assumption) ?_
    rotate_left
    · intro w hSw; (try dsimp only at hSw); go_simp; (try with_reducible rfl)
    try simp only [Act.put, List.setIfInBounds_toArray, List.set_cons_zero, List.set_cons_succ]
    refine wpAnyH_take (i := 12) (oi := ⟨some 101, _, _, _, _, some (10, false)⟩) (v := (pp b)) rfl (by kernel_rfl) (by kernel_rfl) (by kernel_rfl) (fun _ _ _ h => h) (Or.inl ⟨by rfl, ?_⟩) (by assumption) ?_
    · intro w hSw; (try dsimp only at hSw); have r := Blk.cell hSw 1; (try go_simp); (try simp [*])
    try simp only [Act.put, List.setIfInBounds_toArray, List.set_cons_zero, List.set_cons_succ]
    refine wpAnyH_take (i := 14) (oi := ⟨some 103, _, _, _, _, some (10, false)⟩) (v := (.agg #[pp rb, pp b, pp tb, .int .i64 1])) rfl (by kernel_rfl) (by kernel_rfl) (by kernel_rfl) (fun _ _ _ h => h) (Or.inl ⟨by rfl, ?_⟩) (by assumption) ?_
    · intro w hSw; (try dsimp only at hSw); have r0 := Blk.cell hSw 0; have r1 := Blk.cell hSw 1; have r2 := Blk.cell hSw 2; have r3 := Blk.cell hSw 3; (try go_simp); (try simp [*])
    try simp only [Act.put, List.setIfInBounds_toArray, List.set_cons_zero, List.set_cons_succ]
    refine wpAnyH_ready (rs := [13]) (by kernel_rfl) (by simp) ?_
    refine AllReadyH.cons (o := ⟨some 102, _, _, _, _, some (10, false)⟩) rfl (fun K hK => ?_) AllReadyH.nil
    go_simp
    go_wp2_with (go_at_call 18; refine Calls.mono (FC.out _ G3.out) ?_; rintro e u4 ⟨rfl, hw4⟩)
    have hw5 := hw4.symm
    subst hw5
    refine hK.out _ _ hHeld (fun hHeld2 => ?_)
    clear hK K hHeld hw4
    have hHeld := hHeld2
    clear hHeld2
    try simp only [Act.put, List.setIfInBounds_toArray, List.set_cons_zero, List.set_cons_succ]
    refine wpAnyH_ready (rs := [15]) (by kernel_rfl) (by simp) ?_
    refine AllReadyH.cons (o := ⟨some 104, _, _, _, _, some (10, false)⟩) rfl (fun K hK => ?_) AllReadyH.nil
    go_simp
    go_wp2_with (go_at_call 17; refine Calls.mono (UC.out _ G3.out) ?_; rintro e u5 ⟨rfl, hb5⟩)
    have G5 : Hid (Below w8.heap.size w8 u5) := below_then G3.out hb5
    refine hK.out _ _ (hHeld.below hb5) (fun hHeld2 => ?_)
    clear hK K hHeld hb5 G3
    have hHeld := hHeld2
    clear hHeld2
    try simp only [Act.put, List.setIfInBounds_toArray, List.set_cons_zero, List.set_cons_succ]
    refine wpAnyH_take (i := 16) (oi := ⟨some 105, _, _, _, _, some (10, false)⟩) (v := (.int .i64 fz)) rfl (by kernel_rfl) (by kernel_rfl) (by kernel_rfl) (fun _ _ _ h => h) (Or.inl ⟨by rfl, ?_⟩) (by assumption) ?_
    · intro w hSw; (try dsimp only at hSw); go_simp; (try simp); (try (simp only [IntKind.wrap_i64]; omega))
    try simp only [Act.put, List.setIfInBounds_toArray, List.set_cons_zero, List.set_cons_succ]
    refine wpAnyH_take (i := 17) (oi := ⟨some 106, _, _, _, _, some (10, false)⟩) (v := (.bool false)) rfl (by kernel_rfl) (by kernel_rfl) (by kernel_rfl) (fun _ _ _ h => h) (Or.inl ⟨by rfl, ?_⟩) (by assumption) ?_
    · intro w hSw; (try dsimp only at hSw); go_simp; (try simp); (try (simp only [IntKind.wrap_i64]; omega))
    try simp only [Act.put, List.setIfInBounds_toArray, List.set_cons_zero, List.set_cons_succ]
    refine wpAnyH_take (i := 18) (oi := ⟨some 107, _, _, _, _, none⟩) (v := (.bool false)) rfl (by kernel_rfl) (by kernel_rfl) (by kernel_rfl) (fun _ _ _ h => h) (Or.inl ⟨by rfl, ?_⟩) (by assumption) ?_
    · intro w hSw; (try dsimp only at hSw); go_simp; (try simp); (try (simp only [IntKind.wrap_i64]; omega))
    try simp only [Act.put, List.setIfInBounds_toArray, List.set_cons_zero, List.set_cons_succ]
    refine wpAnyH_take (i := 19) (oi := ⟨some 108, _, _, _, _, none⟩) (v := ?_) rfl (by kernel_rfl) (by kernel_rfl) (by kernel_rfl) (fun _ _ _ h => h) (Or.inl ⟨by rfl, ?_⟩) (by assumption) ?_
    rotate_left
    · intro w hSw; (try dsimp only at hSw); go_simp; (try with_reducible rfl)
    try simp only [Act.put, List.setIfInBounds_toArray, List.set_cons_zero, List.set_cons_succ]
    refine wpAnyH_take (i := 20) (oi := ⟨some 109, _, _, _, _, some (19, false)⟩) (v := (.agg #[pp rb, pp b, pp tb, .int .i64 1])) rfl (by kernel_rfl) (by kernel_rfl) (by kernel_rfl) (fun _ _ _ h => h) (Or.inl ⟨by rfl, ?_⟩) (by assumption) ?_
    · intro w hSw; (try dsimp only at hSw); have r0 := Blk.cell hSw 0; have r1 := Blk.cell hSw 1; have r2 := Blk.cell hSw 2; have r3 := Blk.cell hSw 3; (try go_simp); (try simp [*])
    try simp only [Act.put, List.setIfInBounds_toArray, List.set_cons_zero, List.set_cons_succ]
    refine wpAnyH_take (i := 21) (oi := ⟨some 110, _, _, _, _, some (19, false)⟩) (v := ?_) rfl (by kernel_rfl) (by kernel_rfl) (by kernel_rfl) (fun _ _ _ h => h) (Or.inl ⟨by rfl, ?_⟩) (by assumption) ?_
    rotate_left
    · intro w hSw; (try dsimp only at hSw); go_simp; (try with_reducible rfl)
    try simp only [Act.put, List.setIfInBounds_toArray, List.set_cons_zero, List.set_cons_succ]
    refine wpAnyH_take (i := 23) (oi := ⟨some 112, _, _, _, _, some (19, false)⟩) (v := ?_) rfl (by kernel_rfl) (by kernel_rfl) (by kernel_rfl) (fun _ _ _ h => h) (Or.inl ⟨by rfl, ?_⟩) (by assumption) ?_
    rotate_left
    · intro w hSw; (try dsimp only at hSw); go_simp; (try with_reducible rfl)
    try simp only [Act.put, List.setIfInBounds_toArray, List.set_cons_zero, List.set_cons_succ]
    refine wpAnyH_ready (rs := [22]) (by kernel_rfl) (by simp) ?_
    refine AllReadyH.cons (o := ⟨some 111, _, _, _, _, some (19, false)⟩) rfl (fun K hK => ?_) AllReadyH.nil
    go_simp
    go_wp2_with (go_at_call 20; refine Calls.mono (PGC.out _ G5.out) ?_; rintro e u6 ⟨pf, cf, rfl, hN6, hb6⟩)
    have G6 : Hid (Below w8.heap.size w8 u6) := below_then G5.out hb6
    have HN6 : Hid (IsN u6 pf (pgs lf2)) := hN6
    refine hK.out _ _ (hHeld.below hb6) (fun hHeld2 => ?_)
    clear hK K hHeld hb6 hN6 G5
    have hHeld := hHeld2
    clear hHeld2
    try simp only [Act.put, List.setIfInBounds_toArray, List.set_cons_zero, List.set_cons_succ]
    refine wpAnyH_ready (rs := [24]) (by kernel_rfl) (by simp) ?_
    refine AllReadyH.cons (o := ⟨some 113, _, _, _, _, some (19, false)⟩) rfl (fun K hK => ?_) AllReadyH.nil
    go_simp
    go_wp2_with (go_at_call 16; refine Calls.mono (NC8.out _ G6.out) ?_; rintro e u7 ⟨q7, d7, rfl, hN7, hb7⟩)
    have G7 : Hid (Below w8.heap.size w8 u7) := below_then G6.out hb7
    have HN7 : Hid (IsN u7 q7 (pgs lf2) ∧ IsN u7 pf (pgs lf2)) := ⟨hN7, HN6.out.below hb7⟩
    refine hK.out _ _ (hHeld.below hb7) (fun hHeld2 => ?_)
    clear hK K hHeld hb7 hN7 G6 HN6
    have hHeld := hHeld2
    clear hHeld2
    try simp only [Act.put, List.setIfInBounds_toArray, List.set_cons_zero, List.set_cons_succ]
    refine wpAnyH_ready (rs := [25]) (by kernel_rfl) (by simp) ?_
    refine AllReadyH.cons (o := ⟨some 114, _, _, _, _, some (19, false)⟩) rfl (fun K hK => ?_) AllReadyH.nil
    go_simp
    go_wp2_with (go_at_call 19; refine Calls.mono (SC.out _ pf q7 cf d7 HN7.out.2 HN7.out.1) ?_; rintro e u8 ⟨rfl, hb8⟩)
    have G8 : Hid (Below w8.heap.size w8 u8) := below_then G7.out hb8
    refine hK.out _ _ (hHeld.below hb8) (fun hHeld2 => ?_)
    clear hK K hHeld hb8 G7 HN7
    have hHeld := hHeld2
    clear hHeld2
    try simp only [Act.put, List.setIfInBounds_toArray, List.set_cons_zero, List.set_cons_succ]
    refine wpAnyH_take (i := 26) (oi := ⟨some 115, _, _, _, _, some (19, false)⟩) (v := (.bool false)) rfl (by kernel_rfl) (by kernel_rfl) (by kernel_rfl) (fun _ _ _ h => h) (Or.inl ⟨by rfl, ?_⟩) (by assumption) ?_
    · intro w hSw; (try dsimp only at hSw); go_simp; (try simp); (try (simp only [IntKind.wrap_i64]; omega))
    try simp only [Act.put, List.setIfInBounds_toArray, List.set_cons_zero, List.set_cons_succ]
    refine wpAnyH_take (i := 27) (oi := ⟨some 116, _, _, _, _, none⟩) (v := (.bool false)) rfl (by kernel_rfl) (by kernel_rfl) (by kernel_rfl) (fun _ _ _ h => h) (Or.inl ⟨by rfl, ?_⟩) (by assumption) ?_
    · intro w hSw; (try dsimp only at hSw); go_simp; (try simp); (try (simp only [IntKind.wrap_i64]; omega))
    try simp only [Act.put, List.setIfInBounds_toArray, List.set_cons_zero, List.set_cons_succ]
    clear hHeld
    refine wpAnyH_done (by kernel_rfl) ?_ _
    refine NoPanic.normal ?_
    have HF : Hid (∃ (Y : Nat → Prop) (s : Ps) (tab : Nat → Nat → Option Nat) (lf : Nat → Option Lf), Sd Y (pm0 rb b tb 60) root 1 (a0 - 2) 0 57 s tab lf (.slice p' ln2 c') u8 ∧ (s.q ≤ 6000 + 10 * (i + 1) ∧ (pgs lf).length ≤ i + 1 ∧ ((tabsN (pgs lf) : Nat) : Int) ≤ (a0 - 2)) ∧ ((∀ j, XM j → Y j) ∧ Y B ∧ Kx XM wq u8 ∧ Blk u8 B [pp rb, pp b, pp tb, .int .i64 1] 27)) := ⟨Y2, s2, tab2, lf2, sd_drew HSV.out G8.out, HBX.out.1, HBX.out.2.1, HBX.out.2.2.1, HBX.out.2.2.2.1.trans ((Kx.of_below HS2.out.st.pu G8.out).sub (fun j hj => HBX.out.2.1 j hj)), HBX.out.2.2.2.2.below G8.out⟩
    clear HS2 HBX G8
    go_wp2_with fail
    go_roundw
    case rel => exact ⟨i + 1, by omega, by omega, by go_num, HF⟩
    case measure => simp [Go.RowKit.intOf]; omega

set_option maxRecDepth 100000 in
theorem lifted (os : Os) (started : os.Started) (H : Type) (enc : TypeId × Value → H) :
    ReturnsInHanded {} Tryd.checked os 3 .any (fun w args => (Rows.tablePlaysSpec.pre enc Tryd.prog Tryd.f3 [] false w args ∧ laidMetH Tryd.prog laidL w) ∧ sizedMet enc Tryd.prog Tryd.f3 (OpenSpec.ofChange Rows.tablePlaysSpec) false w args)
      (Rows.tablePlaysSpec.post enc Tryd.prog Tryd.f3 false true false false) := by
  refine returnsInHanded_of_change_and (C := Tryd.checked) (X := fun w _ => laidMetH Tryd.prog laidL w) (fun _ _ _ hh h => h.of_heap hh) own started (by kernel_rfl) Tryd.func3
    (ChangeSpec.witness_shaped (enc := enc) (C := Tryd.checked) (os := os) (X := fun w _ => laidMetH Tryd.prog laidL w) false (World.doorLaid Tryd.prog 400 os) #[.int .i64 0, .slice none 0 0] 8 rfl (World.shaped_of_RefB (by kernel_rfl) (by kernel_rfl)) (by kernel_rfl) (by kernel_rfl) (by kernel_rfl) (door_met os _)) ?_
  intro W base args ds gs before hval0 hW _ _ hL _
  have hval : ∀ (j : Nat) t v, Tryd.f3.params[j]? = some t → args[j]? = some v → Value.okWide Tryd.prog W .any base t v := hval0
  have hW' := hW
  obtain ⟨p, q, hA0, hV, hbef, hfz, hnd⟩ := hW
  have hA : DataW.TrodAll enc Tryd.prog W 0 (fun _ => true) true Tryd.f3.params.toList args.toList ds p := hA0
  have hAk := hA
  have hlt : ∀ x ∈ p, x.block < W.heap.size := fun x hx => hW'.lt x (by rw [hbef]; exact List.mem_append_left _ hx)
  rw [Tryd.params3] at hA hval
  obtain ⟨v0, vs0, d0, ds0, p0, q0, hargs, rfl, hp0, h0, r0⟩ := trodAll_cons hA
  obtain ⟨v1, vs1, d1, ds1, p1, q1, rfl, rfl, hp1, h1, r1⟩ := trodAll_cons r0
  obtain ⟨rfl, rfl, hpz⟩ := trodAll_nil r1
  obtain rfl : args = #[v0, v1] := by cases args; simp_all
  obtain ⟨rfl, rfl⟩ := trodVars_none hV
  obtain ⟨a0, rfl, _, _, w0⟩ := open_int Tryd.underlying3 (hval 0 3 v0 rfl rfl) h0
  obtain ⟨p1, n1, c1, A1, rfl, m1, H1⟩ := open_acts (hval 1 22 v1 rfl rfl) h1
  clear hA0 hval0
  refine (walk a0 w0 p1 n1 c1 A1 m1 W (of_laid hL) H1).mono fun e W' ⟨he, hg⟩ => ?_
  subst he
  exact ⟨_, rfl, ⟨_, _, _, [], p, [], hW', (trodAll_cons_mk (shut_bool Tryd.underlying4 _) trodAll_mk0), args_stay laidOut hg (by kernel_rfl) hAk hlt, rfl, hg.frame _, fun h => by cases h⟩⟩

theorem over : Rows.tablePlaysRow.holds Tryd.pinned (OpenSpec.ofChange Rows.tablePlaysSpec) :=
  OpenClaim.holds_of_wide 3 Tryd.f3 rfl rfl rfl rfl rfl rfl rfl ⟨rfl, rfl, rfl, rfl, rfl⟩ rfl rfl rfl rfl rfl (by kernel_rfl) Tryd.func3 (by kernel_rfl)
    (of_decide_eq_true (by kernel_rfl)) (by unfold Func.isWrapper; first | (rw [if_pos (by decide +kernel)]; kernel_rfl) | (rw [if_neg (by decide +kernel)]; exact ⟨rfl, rfl⟩))
    (fun os started H enc _ => lifted os started H enc)

theorem proved : Rows.TablePlaysCardSaid :=
  Claim7.holds_tied_plain_at .later [] [.data] true (true, "64c8694732dce4494ae4c7601e39c35f2573908f76922d47bdd02e269d73e0bb") true
    over (fun _ h => by cases h) (by kernel_rfl) (fun _ h => by cases h) tablePlays_row_tie rfl ⟨rfl, rfl⟩ (by kernel_rfl) rfl
    (fun f fn hf hfn => by
      obtain rfl : f = 3 := Option.some.inj ((show Tryd.prog.funcNamed "demesne/demesnelaw09.TablePlays" = some 3 by kernel_rfl).symm.trans hf) |>.symm
      obtain rfl : fn = Tryd.f3 := (Option.some.inj (Tryd.func3.symm.trans hfn)).symm
      exact ⟨by kernel_rfl, fun j t ht => by
        rw [Tryd.params3] at ht
        have hm : t ∈ [3, 22] := by simpa using Array.mem_of_getElem? ht
        have hall : ([3, 22].all fun u => !Tryd.prog.wantsStandIn u) = true := by kernel_rfl
        exact (show Tryd.prog.wantsStandIn t = false by simpa using List.all_eq_true.1 hall t hm)⟩)
    (by kernel_rfl)
#print axioms proved
end Go.Proofs.YtkiclbnbnjbcaaaDoor.tablePlays
