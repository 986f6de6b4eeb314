/- TableUses: behind any 20 calls of Map a page that is protected leads where it did, and may be used as was said last. No condition. -/
import Derived.Test.YtbpkmmckbhogcabDoorRows
import Derived.Test.YtbpkmmckbhogcabDoorCards
import Derived.Test.YtbpkmmckbhogcabDoorTie
import Derived.ProofKit
import Derived.OpenShut
import Derived.Stop.Joined
import Derived.SevenTiedAt
import Derived.Test.YtbpkmmckbhogcabDoorMD
namespace Go.Proofs.YtbpkmmckbhogcabDoor.tableUses
open Go.ChangeShapes Go.WideShapes Go.ChangeAt Go.RowKit
set_option linter.unusedSimpArgs false
set_option linter.unusedVariables false
open Go.Proofs.YtbpkmmckbhogcabDoor.Tt
set_option maxRecDepth 8000
theorem eqPermS (a b c : Bool) (W : World) : (binOp .eql 24 (.agg #[.bool a, .bool b, .bool c]) (.agg #[.bool a, .bool b, .bool c])).run Tryd.prog W = .ok (.bool true) W := by
  cases a <;> cases b <;> cases c <;> kernel_rfl
theorem below_dr (W : World) : Below W.heap.size W W.drew := ⟨rfl, rfl, rfl, Nat.le_refl _, fun _ _ => rfl⟩
theorem went_drew {X : Nat → Prop} {m : Pm} {root i : Nat} {W : World} (h : Went X m root i W) : Went X m root i W.drew := by
  obtain ⟨a, s, tab, lf, ha, hq, hp, hn, hr⟩ := h
  exact ⟨a, s, tab, lf, ha, hq, hp.below (below_drew (Below.refl _ _)), hn, hr⟩
theorem kx_drew (X : Nat → Prop) (W : World) : Kx X W W.drew := ⟨rfl, rfl, rfl, Nat.le_refl _, fun _ _ => rfl⟩

set_option maxHeartbeats 8000000 in
theorem walk (p0 : Option Addr) (n0 c0 : Nat) (A0 : Nat → Ac) (m0 : n0 ≤ maxLen) (a1 : Int) (w1 : (Lit.int .i64 a1).wf = true) (s2 : B3) (w : World) (ht : Tab w) (H0 : IsActs w p0 n0 A0) :
    Calls Tryd.prog 3 #[.slice p0 n0 c0, .int .i64 a1, s2.val] w fun e w' => e = .returned (.bool true) ∧ Below w.heap.size w w' := by
  obtain ⟨pa, pb, pc⟩ := s2
  have AW : Hid (∀ W : World, Tab W → Calls Tryd.prog 13 #[] W fun e w' => e = .returned (.bool true) ∧ Below W.heap.size W w') := fun W t => awake_any W t
  have HT : Hid (Tab w) := ht
  have WP : Hid (0 < w.heap.size) := ht.1
  have HA : Hid (IsActs w p0 n0 A0) := H0
  have HB0 : Below w.heap.size w (w.alloc (.cells #[.bool pa, .bool pb, .bool pc] 24)) := Go.Joins.below_alloc1 _ _
  have PC : Hid _ := purse_ok (w.alloc (.cells #[.bool pa, .bool pb, .bool pc] 24)) (ht.below HB0 ht.1) 90 90 (by omega) (by omega) (by omega) (by omega)
  have F0 : Hid (Blk (w.alloc (.cells #[.bool pa, .bool pb, .bool pc] 24)) w.heap.size [.bool pa, .bool pb, .bool pc] 24 ∧ Below w.heap.size w (w.alloc (.cells #[.bool pa, .bool pb, .bool pc] 24)) ∧ (w.alloc (.cells #[.bool pa, .bool pb, .bool pc] 24)).heap.size = w.heap.size + 1) := ⟨Blk.made w [.bool pa, .bool pb, .bool pc] 24, HB0, World.size_alloc _ _⟩
  clear HB0 H0 ht
  go_enter Tryd.func3, Tryd.ntmps3
  go_upto_region 1 with fail
  generalize (w.alloc (.cells #[.bool pa, .bool pb, .bool pc] 24)) = wA at PC F0 ⊢
  obtain ⟨A, hA⟩ : ∃ A, w.heap.size = A := ⟨_, rfl⟩
  have HAE : Hid (A = w.heap.size) := hA.symm
  rw [hA]
  clear hA
  go_wp2_with fail
  refine Calls.mono PC.out ?_
  rintro e w1 ⟨rb, b, tb, rfl, hp1, hb1⟩
  obtain ⟨X, hX⟩ : ∃ X : Nat → Prop, X = XW (fun j => j < wA.heap.size) w1 (w1.alloc (.cells #[pp rb, pp b, pp tb, .int .i64 0] 29)) := ⟨_, rfl⟩
  have F2 : Hid (Pu X (w1.alloc (.cells #[pp rb, pp b, pp tb, .int .i64 0] 29)) (pm0 rb b tb 90) (ps0 (from1 90) 90) ∧ Blk (w1.alloc (.cells #[pp rb, pp b, pp tb, .int .i64 0] 29)) w1.heap.size [pp rb, pp b, pp tb, .int .i64 0] 29 ∧ X w1.heap.size ∧ (∀ j, j < wA.heap.size → X j) ∧ Below wA.heap.size wA (w1.alloc (.cells #[pp rb, pp b, pp tb, .int .i64 0] 29))) := by
    refine ⟨by rw [hX]; exact hp1.grow (Go.Joins.below_alloc1 _ _), Blk.made w1 [pp rb, pp b, pp tb, .int .i64 0] 29, by rw [hX]; exact Or.inr ⟨Nat.le_refl _, by rw [World.size_alloc]; omega⟩, fun j hj => by rw [hX]; exact Or.inl hj, below_then hb1 (Go.Joins.below_alloc1 _ _)⟩
  clear hp1 hb1 hX PC
  go_upto_region 4 with fail
  generalize (w1.alloc (.cells #[pp rb, pp b, pp tb, .int .i64 0] 29)) = w2 at F2 ⊢
  generalize w1.heap.size = B at F2 ⊢
  have XB : Hid (X B ∧ X A ∧ (∀ j, j < w.heap.size → X j)) := ⟨F2.out.2.2.1, F2.out.2.2.2.1 A (by have := HAE.out; have := F0.out.2.2; omega), fun j hj => F2.out.2.2.2.1 j (by have := F0.out.2.2; omega)⟩
  have L2 : Hid (Below w.heap.size w w2 ∧ Blk w2 A [.bool pa, .bool pb, .bool pc] 24) := ⟨below_then F0.out.2.1 F2.out.2.2.2.2, by rw [HAE.out]; exact F0.out.1.below F2.out.2.2.2.2⟩
  have BB : Hid (Blk w2 B [pp rb, pp b, pp tb, .int .i64 0] 29) := F2.out.2.1
  have P0 : Hid (Pu X w2 (pm0 rb b tb 90) (ps0 (from1 90) 90)) := F2.out.1
  have N0 : Hid (Nums (pm0 rb b tb 90) (ps0 (from1 90) 90) 0 90 0 89) := nums0 (pm0 rb b tb 90) 90 90 (by omega) (by omega)
  clear F2 F0
  have KC : Hid (Calls Tryd.prog 7 #[.agg #[pp rb, pp b, pp tb, .int .i64 0]] w2 fun e w' => ∃ (L : List Nat) (kf : Nat), e = .returned (.tuple #[.int .i64 kf, .int .i64 0]) ∧ (L.length = 2 ∧ InL (ps0 (from1 90) 90) L ∧ kf ∈ L) ∧ Wrote X w2 (pm0 rb b tb 90) (ps0 (from1 90) 90) 0 L w') := by
    refine (kernel_ok P0.out (by show (1 : Int) ≤ 90; omega) 0 (N0.out.box (by omega)) (by show 0 < _; omega) (by rw [N0.out.room]; show 1 + ((90 : Int) + 262143) / 262144 ≤ 90; omega)).mono ?_
    rintro e w' ⟨L, kf, he, ⟨h1, h2⟩, hw⟩
    have h1' : (L.length : Int) = 1 + ((90 : Int) + 262143) / 262144 := h1
    exact ⟨L, kf, he, ⟨by omega, h2⟩, hw⟩
  have BX := BB.out
  have c0 : w2.cell? ⟨B, 0, none⟩ = some (pp rb) := BX.cell 0
  have c1 : w2.cell? ⟨B, 1, none⟩ = some (pp b) := BX.cell 1
  have c2 : w2.cell? ⟨B, 2, none⟩ = some (pp tb) := BX.cell 2
  have c3 : w2.cell? ⟨B, 3, none⟩ = some (.int .i64 0) := BX.cell 3
  have lB := BX.lt
  clear BX
  go_wp2_with fail
  refine Calls.mono KC.out ?_
  rintro e w3 ⟨L, kf, rfl, ⟨hl, IN, hkf⟩, M3, hp3, hk3, ho3⟩
  have B3 : Hid (Blk w3 B [pp rb, pp b, pp tb, .int .i64 0] 29) := BB.out.kx hk3 XB.out.1
  have K3 : Hid (Kx X w2 w3 ∧ kf < 1048576) := ⟨hk3, by have := P0.out.so.frb kf (IN.2 kf hkf); omega⟩
  have N3 : Hid (Nums (pm0 rb b tb 90) _ 0 (90 - L.length) (0 + L.length) (89 - L.length)) := N0.out.take P0.out.so IN M3 (0 + 5000)
  obtain ⟨s3, hs3⟩ : ∃ s3 : Ps, s3 = { takeS (ps0 (from1 90) 90) 0 L with M := M3, q := 0 + 5000 } := ⟨_, rfl⟩
  have P3 : Hid (Pu X w3 (pm0 rb b tb 90) s3 ∧ s3.q = 5000) := by rw [hs3]; exact ⟨hp3, rfl⟩
  have N3' : Hid (Nums (pm0 rb b tb 90) s3 0 88 2 87) := by have q := N3.out; rw [← hs3, hl] at q; exact q
  clear hs3 hl IN hkf hp3 hk3 ho3 BB N0 P0 N3
  have BB := B3
  clear B3
  clear c0 c1 c2 c3 lB KC
  have RC : Hid (Calls Tryd.prog 8 #[.agg #[pp rb, pp b, pp tb, .int .i64 0], .int .i64 kf] w3 fun e w' => ∃ root : Nat, e = .returned (.tuple #[.int .i64 root, .int .i64 0]) ∧ Rooted X w3 (pm0 rb b tb 90) s3 0 root w') := root_ok P3.out.1 0 (N3'.out.box (by omega)) (by rw [P3.out.2]; omega) (by rw [N3'.out.room]; omega) kf K3.out.2
  have BX := BB.out
  have c0 : w3.cell? ⟨B, 0, none⟩ = some (pp rb) := BX.cell 0
  have c1 : w3.cell? ⟨B, 1, none⟩ = some (pp b) := BX.cell 1
  have c2 : w3.cell? ⟨B, 2, none⟩ = some (pp tb) := BX.cell 2
  have c3 : w3.cell? ⟨B, 3, none⟩ = some (.int .i64 0) := BX.cell 3
  have lB := BX.lt
  clear BX
  go_wp2_with fail
  refine Calls.mono RC.out ?_
  rintro e w4 ⟨root, rfl, M4, hF, hp4, hk4, hz4, _⟩
  have B4 : Hid (Blk w4 B [pp rb, pp b, pp tb, .int .i64 0] 29) := BB.out.kx hk4 XB.out.1
  have K4 : Hid (Kx X w2 w4) := K3.out.1.trans hk4
  have IN4 : InL s3 [root] := ⟨by simp, fun p hp => by simp at hp; subst hp; exact hF⟩
  have N4 : Hid (Nums (pm0 rb b tb 90) _ 0 (88 - ([root] : List Nat).length) (2 + ([root] : List Nat).length) (87 - ([root] : List Nat).length)) := N3'.out.take P3.out.1.so IN4 M4 (s3.q + 2)
  have R4 : Hid (Rt (pm0 rb b tb 90) _ root (tab1 root) (fun _ => none)) := rt_root (k := 0) (q := s3.q + 2) P3.out.1.so hF hz4
  have P4 : Hid (Went X (pm0 rb b tb 90) root 0 w4 ∧ Kx X w2 w4 ∧ Blk w4 B [pp rb, pp b, pp tb, .int .i64 0] 29) := ⟨⟨0, _, _, _, by omega, by show s3.q + 2 ≤ _; have := P3.out.2; omega, hp4, N4.out, R4.out⟩, K4.out, B4.out⟩
  clear hF hp4 hk4 hz4 IN4 N4 R4 BB K3 P3 N3' K4 B4
  clear c0 c1 c2 c3 lB RC
  go_upto_region 9 with fail
  go_loopw [13] (fun vi W => ∃ k : Nat, k ≤ n0 ∧ k ≤ 20 ∧ vi = .int .i64 k ∧ Hid (Went X (pm0 rb b tb 90) root k W ∧ Kx X w2 W ∧ Blk W B [pp rb, pp b, pp tb, .int .i64 0] 29)) (fun vi _ => 20 - (Go.RowKit.intOf vi).toNat)
  case atStart => exact ⟨0, by omega, by omega, rfl, P4⟩
  case round =>
    clear P4
    obtain ⟨k, hk, hk20, rfl, HP⟩ := hrel
    have LW : Hid (Below w.heap.size w wr) := by
      have q := HP.out.2.1
      exact L2.out.1.trans ⟨q.os, q.tape, q.output, q.size, fun j hj => q.block j (XB.out.2.2 j hj)⟩
    by_cases hlt : k < n0 ∧ k < 20
    rotate_left
    · have PB : Hid (Blk wr A [.bool pa, .bool pb, .bool pc] 24) := L2.out.2.kx HP.out.2.1 XB.out.2.1
      have BB : Hid (Blk wr B [pp rb, pp b, pp tb, .int .i64 0] 29) := HP.out.2.2
      have EE := went_ends HP.out.1 hk20 a1 pa pb pc
      have hd : (decide ((k : Int) < (n0 : Int)) = false ∧ ¬ k < n0) ∨ (decide ((k : Int) < (n0 : Int)) = true ∧ decide ((k : Int) < 20) = false ∧ k < n0 ∧ ¬ k < 20) := by
        by_cases c : k < n0
        · right; simp; omega
        · left; simp; omega
      clear hlt HP L2 hk hk20 HAE HA m0
      rcases EE with ⟨u, hE⟩ | ⟨f, x, y, z, u, hE⟩
      · have E : Hid (_) := hE
        clear hE
        rcases hd with ⟨hd, hn⟩ | ⟨hd, hd2, hn, hn2⟩
        · have BX := BB.out
          have c0 : wr.cell? ⟨B, 0, none⟩ = some (pp rb) := BX.cell 0
          have c1 : wr.cell? ⟨B, 1, none⟩ = some (pp b) := BX.cell 1
          have c2 : wr.cell? ⟨B, 2, none⟩ = some (pp tb) := BX.cell 2
          have c3 : wr.cell? ⟨B, 3, none⟩ = some (.int .i64 0) := BX.cell 3
          have lB := BX.lt
          clear BX
          go_wp2_with fail
          refine Calls.mono (E.out wr (Below.refl _ _)).1 ?_
          rintro e v1 ⟨rfl, hb1⟩
          have F2 : Hid (Below wr.heap.size wr (v1.alloc (.cells #[.bool false, .bool false, .bool false] 24)) ∧ Blk (v1.alloc (.cells #[.bool false, .bool false, .bool false] 24)) v1.heap.size [.bool false, .bool false, .bool false] 24 ∧ wr.heap.size ≤ v1.heap.size) := ⟨below_new hb1 _, Blk.made v1 [.bool false, .bool false, .bool false] 24, hb1.size⟩
          clear hb1 c0 c1 c2 c3 lB
          go_upto_region 13 with fail
          generalize (v1.alloc (.cells #[.bool false, .bool false, .bool false] 24)) = v2 at F2 ⊢
          generalize v1.heap.size = WS at F2 ⊢
          have B2 : Hid (Blk v2 B [pp rb, pp b, pp tb, .int .i64 0] 29) := BB.out.below F2.out.1
          have A2 : Hid (Blk v2 A [.bool pa, .bool pb, .bool pc] 24) := PB.out.below F2.out.1
          have S2 : Hid (Blk v2 WS [.bool false, .bool false, .bool false] 24 ∧ wr.heap.size ≤ WS) := F2.out.2
          have G2 : Hid (Below wr.heap.size wr v2) := F2.out.1
          clear F2 BB PB
          have BB := B2
          clear B2
          have BX := BB.out
          have c0 : v2.cell? ⟨B, 0, none⟩ = some (pp rb) := BX.cell 0
          have c1 : v2.cell? ⟨B, 1, none⟩ = some (pp b) := BX.cell 1
          have c2 : v2.cell? ⟨B, 2, none⟩ = some (pp tb) := BX.cell 2
          have c3 : v2.cell? ⟨B, 3, none⟩ = some (.int .i64 0) := BX.cell 3
          have lB := BX.lt
          clear BX
          go_wp2_with fail
          refine Calls.mono (E.out v2 G2.out).2.1 ?_
          rintro e v3 ⟨rfl, hb3⟩
          have B3 : Hid (Blk v3 B [pp rb, pp b, pp tb, .int .i64 0] 29) := BB.out.below hb3
          have PA : Hid (Blk v3 A [.bool pa, .bool pb, .bool pc] 24) := A2.out.below hb3
          have S3 : Hid (Blk v3 WS [.bool false, .bool false, .bool false] 24 ∧ wr.heap.size ≤ WS) := ⟨S2.out.1.below hb3, S2.out.2⟩
          have G3 : Hid (Below wr.heap.size wr v3) := below_then G2.out hb3
          clear hb3 BB A2 S2 G2 c0 c1 c2 c3 lB
          have BB := B3
          clear B3
          have BX := BB.out
          have c0 : v3.cell? ⟨B, 0, none⟩ = some (pp rb) := BX.cell 0
          have c1 : v3.cell? ⟨B, 1, none⟩ = some (pp b) := BX.cell 1
          have c2 : v3.cell? ⟨B, 2, none⟩ = some (pp tb) := BX.cell 2
          have c3 : v3.cell? ⟨B, 3, none⟩ = some (.int .i64 0) := BX.cell 3
          have lB := BX.lt
          clear BX
          have PAX := PA.out
          have PA0 : v3.cell? ⟨A, 0, none⟩ = some (.bool pa) := PAX.cell 0
          have PA1 : v3.cell? ⟨A, 1, none⟩ = some (.bool pb) := PAX.cell 1
          have PA2 : v3.cell? ⟨A, 2, none⟩ = some (.bool pc) := PAX.cell 2
          have PAl := PAX.lt
          clear PAX
          go_wp2_with fail
          refine Calls.mono (E.out v3 G3.out).2.2 ?_
          rintro e v4 ⟨rfl, hb4⟩
          have B4 : Hid (Blk v4 B [pp rb, pp b, pp tb, .int .i64 0] 29) := BB.out.below hb4
          have PA4 : Hid (Blk v4 A [.bool pa, .bool pb, .bool pc] 24) := PA.out.below hb4
          have S4 : Hid (Blk v4 WS [.bool false, .bool false, .bool false] 24) := S3.out.1.below hb4
          have G4 : Hid (Below wr.heap.size wr v4) := below_then G3.out hb4
          have L4 : Hid (Below w.heap.size w v4) := below_then LW.out G4.out
          have E4 : Hid (∀ W'' : World, Below v4.heap.size v4 W'' → Tt.Ask rb b tb root a1 W'' 0 false false false false ∧ Tt.Use rb b tb W'' u) := fun W'' h => ⟨(E.out W'' (below_then G4.out h)).1, (E.out W'' (below_then G4.out h)).2.1⟩
          clear hb4 BB PA S3 G3 G4 E LW c0 c1 c2 c3 lB PA0 PA1 PA2 PAl
          have BB := B4
          clear B4
          have BX := BB.out
          have c0 : v4.cell? ⟨B, 0, none⟩ = some (pp rb) := BX.cell 0
          have c1 : v4.cell? ⟨B, 1, none⟩ = some (pp b) := BX.cell 1
          have c2 : v4.cell? ⟨B, 2, none⟩ = some (pp tb) := BX.cell 2
          have c3 : v4.cell? ⟨B, 3, none⟩ = some (.int .i64 0) := BX.cell 3
          have lB := BX.lt
          clear BX
          go_wp2_with fail
          refine Calls.mono (E4.out v4 (Below.refl _ _)).1 ?_
          rintro e v5 ⟨rfl, hb5⟩
          have F6 : Hid (Below v4.heap.size v4 (v5.alloc (.cells #[.bool false, .bool false, .bool false] 24)) ∧ Blk (v5.alloc (.cells #[.bool false, .bool false, .bool false] 24)) v5.heap.size [.bool false, .bool false, .bool false] 24) := ⟨below_new hb5 _, Blk.made v5 [.bool false, .bool false, .bool false] 24⟩
          clear hb5 c0 c1 c2 c3 lB
          go_upto_region 16 with fail
          generalize (v5.alloc (.cells #[.bool false, .bool false, .bool false] 24)) = v6 at F6 ⊢
          generalize v5.heap.size = NS at F6 ⊢
          have B6 : Hid (Blk v6 B [pp rb, pp b, pp tb, .int .i64 0] 29) := BB.out.below F6.out.1
          have PA6 : Hid (Blk v6 A [.bool pa, .bool pb, .bool pc] 24) := PA4.out.below F6.out.1
          have S6 : Hid (Blk v6 WS [.bool false, .bool false, .bool false] 24) := S4.out.below F6.out.1
          have N6 : Hid (Blk v6 NS [.bool false, .bool false, .bool false] 24) := F6.out.2
          have L6 : Hid (Below w.heap.size w v6) := below_then L4.out F6.out.1
          have U6 : Hid (Tt.Use rb b tb v6 u) := (E4.out v6 F6.out.1).2
          clear F6 BB PA4 S4 L4 E4
          have BB := B6
          clear B6
          have BX := BB.out
          have c0 : v6.cell? ⟨B, 0, none⟩ = some (pp rb) := BX.cell 0
          have c1 : v6.cell? ⟨B, 1, none⟩ = some (pp b) := BX.cell 1
          have c2 : v6.cell? ⟨B, 2, none⟩ = some (pp tb) := BX.cell 2
          have c3 : v6.cell? ⟨B, 3, none⟩ = some (.int .i64 0) := BX.cell 3
          have lB := BX.lt
          clear BX
          go_wp2_with fail
          refine Calls.mono U6.out ?_
          rintro e v7 ⟨rfl, hb7⟩
          have PA7 : Hid (Blk v7 A [.bool pa, .bool pb, .bool pc] 24) := PA6.out.below hb7
          have S7 : Hid (Blk v7 WS [.bool false, .bool false, .bool false] 24) := S6.out.below hb7
          have N7 : Hid (Blk v7 NS [.bool false, .bool false, .bool false] 24) := N6.out.below hb7
          have L7 : Hid (Below w.heap.size w v7) := below_then L6.out hb7
          have T7 : Hid (Tab v7) := HT.out.below L7.out WP.out
          clear hb7 PA6 S6 N6 L6 U6 BB c0 c1 c2 c3 lB
          go_wp2_with fail
          refine Calls.mono (AW.out v7 T7.out) ?_
          rintro e v8 ⟨rfl, hb8⟩
          have PA : Hid (Blk v8 A [.bool pa, .bool pb, .bool pc] 24) := PA7.out.below hb8
          have PS : Hid (Blk v8 WS [.bool false, .bool false, .bool false] 24) := S7.out.below hb8
          have PN : Hid (Blk v8 NS [.bool false, .bool false, .bool false] 24) := N7.out.below hb8
          have L8 : Hid (Below w.heap.size w v8) := below_then L7.out hb8
          clear hb8 PA7 S7 N7 L7 T7
          have PAX := PA.out
          have PA0 : v8.cell? ⟨A, 0, none⟩ = some (.bool pa) := PAX.cell 0
          have PA1 : v8.cell? ⟨A, 1, none⟩ = some (.bool pb) := PAX.cell 1
          have PA2 : v8.cell? ⟨A, 2, none⟩ = some (.bool pc) := PAX.cell 2
          have PAl := PAX.lt
          clear PAX
          have PSX := PS.out
          have PS0 : v8.cell? ⟨WS, 0, none⟩ = some (.bool false) := PSX.cell 0
          have PS1 : v8.cell? ⟨WS, 1, none⟩ = some (.bool false) := PSX.cell 1
          have PS2 : v8.cell? ⟨WS, 2, none⟩ = some (.bool false) := PSX.cell 2
          have PSl := PSX.lt
          clear PSX
          have PNX := PN.out
          have PN0 : v8.cell? ⟨NS, 0, none⟩ = some (.bool false) := PNX.cell 0
          have PN1 : v8.cell? ⟨NS, 1, none⟩ = some (.bool false) := PNX.cell 1
          have PN2 : v8.cell? ⟨NS, 2, none⟩ = some (.bool false) := PNX.cell 2
          have PNl := PNX.lt
          clear PNX
          have eq := eqPermS
          go_wp2_with fail
          go_ret
          exact ⟨rfl, L8.out⟩
        · have BX := BB.out
          have c0 : wr.cell? ⟨B, 0, none⟩ = some (pp rb) := BX.cell 0
          have c1 : wr.cell? ⟨B, 1, none⟩ = some (pp b) := BX.cell 1
          have c2 : wr.cell? ⟨B, 2, none⟩ = some (pp tb) := BX.cell 2
          have c3 : wr.cell? ⟨B, 3, none⟩ = some (.int .i64 0) := BX.cell 3
          have lB := BX.lt
          clear BX
          go_wp2_with fail
          refine Calls.mono (E.out wr (Below.refl _ _)).1 ?_
          rintro e v1 ⟨rfl, hb1⟩
          have F2 : Hid (Below wr.heap.size wr (v1.alloc (.cells #[.bool false, .bool false, .bool false] 24)) ∧ Blk (v1.alloc (.cells #[.bool false, .bool false, .bool false] 24)) v1.heap.size [.bool false, .bool false, .bool false] 24 ∧ wr.heap.size ≤ v1.heap.size) := ⟨below_new hb1 _, Blk.made v1 [.bool false, .bool false, .bool false] 24, hb1.size⟩
          clear hb1 c0 c1 c2 c3 lB
          go_upto_region 13 with fail
          generalize (v1.alloc (.cells #[.bool false, .bool false, .bool false] 24)) = v2 at F2 ⊢
          generalize v1.heap.size = WS at F2 ⊢
          have B2 : Hid (Blk v2 B [pp rb, pp b, pp tb, .int .i64 0] 29) := BB.out.below F2.out.1
          have A2 : Hid (Blk v2 A [.bool pa, .bool pb, .bool pc] 24) := PB.out.below F2.out.1
          have S2 : Hid (Blk v2 WS [.bool false, .bool false, .bool false] 24 ∧ wr.heap.size ≤ WS) := F2.out.2
          have G2 : Hid (Below wr.heap.size wr v2) := F2.out.1
          clear F2 BB PB
          have BB := B2
          clear B2
          have BX := BB.out
          have c0 : v2.cell? ⟨B, 0, none⟩ = some (pp rb) := BX.cell 0
          have c1 : v2.cell? ⟨B, 1, none⟩ = some (pp b) := BX.cell 1
          have c2 : v2.cell? ⟨B, 2, none⟩ = some (pp tb) := BX.cell 2
          have c3 : v2.cell? ⟨B, 3, none⟩ = some (.int .i64 0) := BX.cell 3
          have lB := BX.lt
          clear BX
          go_wp2_with fail
          refine Calls.mono (E.out v2 G2.out).2.1 ?_
          rintro e v3 ⟨rfl, hb3⟩
          have B3 : Hid (Blk v3 B [pp rb, pp b, pp tb, .int .i64 0] 29) := BB.out.below hb3
          have PA : Hid (Blk v3 A [.bool pa, .bool pb, .bool pc] 24) := A2.out.below hb3
          have S3 : Hid (Blk v3 WS [.bool false, .bool false, .bool false] 24 ∧ wr.heap.size ≤ WS) := ⟨S2.out.1.below hb3, S2.out.2⟩
          have G3 : Hid (Below wr.heap.size wr v3) := below_then G2.out hb3
          clear hb3 BB A2 S2 G2 c0 c1 c2 c3 lB
          have BB := B3
          clear B3
          have BX := BB.out
          have c0 : v3.cell? ⟨B, 0, none⟩ = some (pp rb) := BX.cell 0
          have c1 : v3.cell? ⟨B, 1, none⟩ = some (pp b) := BX.cell 1
          have c2 : v3.cell? ⟨B, 2, none⟩ = some (pp tb) := BX.cell 2
          have c3 : v3.cell? ⟨B, 3, none⟩ = some (.int .i64 0) := BX.cell 3
          have lB := BX.lt
          clear BX
          have PAX := PA.out
          have PA0 : v3.cell? ⟨A, 0, none⟩ = some (.bool pa) := PAX.cell 0
          have PA1 : v3.cell? ⟨A, 1, none⟩ = some (.bool pb) := PAX.cell 1
          have PA2 : v3.cell? ⟨A, 2, none⟩ = some (.bool pc) := PAX.cell 2
          have PAl := PAX.lt
          clear PAX
          go_wp2_with fail
          refine Calls.mono (E.out v3 G3.out).2.2 ?_
          rintro e v4 ⟨rfl, hb4⟩
          have B4 : Hid (Blk v4 B [pp rb, pp b, pp tb, .int .i64 0] 29) := BB.out.below hb4
          have PA4 : Hid (Blk v4 A [.bool pa, .bool pb, .bool pc] 24) := PA.out.below hb4
          have S4 : Hid (Blk v4 WS [.bool false, .bool false, .bool false] 24) := S3.out.1.below hb4
          have G4 : Hid (Below wr.heap.size wr v4) := below_then G3.out hb4
          have L4 : Hid (Below w.heap.size w v4) := below_then LW.out G4.out
          have E4 : Hid (∀ W'' : World, Below v4.heap.size v4 W'' → Tt.Ask rb b tb root a1 W'' 0 false false false false ∧ Tt.Use rb b tb W'' u) := fun W'' h => ⟨(E.out W'' (below_then G4.out h)).1, (E.out W'' (below_then G4.out h)).2.1⟩
          clear hb4 BB PA S3 G3 G4 E LW c0 c1 c2 c3 lB PA0 PA1 PA2 PAl
          have BB := B4
          clear B4
          have BX := BB.out
          have c0 : v4.cell? ⟨B, 0, none⟩ = some (pp rb) := BX.cell 0
          have c1 : v4.cell? ⟨B, 1, none⟩ = some (pp b) := BX.cell 1
          have c2 : v4.cell? ⟨B, 2, none⟩ = some (pp tb) := BX.cell 2
          have c3 : v4.cell? ⟨B, 3, none⟩ = some (.int .i64 0) := BX.cell 3
          have lB := BX.lt
          clear BX
          go_wp2_with fail
          refine Calls.mono (E4.out v4 (Below.refl _ _)).1 ?_
          rintro e v5 ⟨rfl, hb5⟩
          have F6 : Hid (Below v4.heap.size v4 (v5.alloc (.cells #[.bool false, .bool false, .bool false] 24)) ∧ Blk (v5.alloc (.cells #[.bool false, .bool false, .bool false] 24)) v5.heap.size [.bool false, .bool false, .bool false] 24) := ⟨below_new hb5 _, Blk.made v5 [.bool false, .bool false, .bool false] 24⟩
          clear hb5 c0 c1 c2 c3 lB
          go_upto_region 16 with fail
          generalize (v5.alloc (.cells #[.bool false, .bool false, .bool false] 24)) = v6 at F6 ⊢
          generalize v5.heap.size = NS at F6 ⊢
          have B6 : Hid (Blk v6 B [pp rb, pp b, pp tb, .int .i64 0] 29) := BB.out.below F6.out.1
          have PA6 : Hid (Blk v6 A [.bool pa, .bool pb, .bool pc] 24) := PA4.out.below F6.out.1
          have S6 : Hid (Blk v6 WS [.bool false, .bool false, .bool false] 24) := S4.out.below F6.out.1
          have N6 : Hid (Blk v6 NS [.bool false, .bool false, .bool false] 24) := F6.out.2
          have L6 : Hid (Below w.heap.size w v6) := below_then L4.out F6.out.1
          have U6 : Hid (Tt.Use rb b tb v6 u) := (E4.out v6 F6.out.1).2
          clear F6 BB PA4 S4 L4 E4
          have BB := B6
          clear B6
          have BX := BB.out
          have c0 : v6.cell? ⟨B, 0, none⟩ = some (pp rb) := BX.cell 0
          have c1 : v6.cell? ⟨B, 1, none⟩ = some (pp b) := BX.cell 1
          have c2 : v6.cell? ⟨B, 2, none⟩ = some (pp tb) := BX.cell 2
          have c3 : v6.cell? ⟨B, 3, none⟩ = some (.int .i64 0) := BX.cell 3
          have lB := BX.lt
          clear BX
          go_wp2_with fail
          refine Calls.mono U6.out ?_
          rintro e v7 ⟨rfl, hb7⟩
          have PA7 : Hid (Blk v7 A [.bool pa, .bool pb, .bool pc] 24) := PA6.out.below hb7
          have S7 : Hid (Blk v7 WS [.bool false, .bool false, .bool false] 24) := S6.out.below hb7
          have N7 : Hid (Blk v7 NS [.bool false, .bool false, .bool false] 24) := N6.out.below hb7
          have L7 : Hid (Below w.heap.size w v7) := below_then L6.out hb7
          have T7 : Hid (Tab v7) := HT.out.below L7.out WP.out
          clear hb7 PA6 S6 N6 L6 U6 BB c0 c1 c2 c3 lB
          go_wp2_with fail
          refine Calls.mono (AW.out v7 T7.out) ?_
          rintro e v8 ⟨rfl, hb8⟩
          have PA : Hid (Blk v8 A [.bool pa, .bool pb, .bool pc] 24) := PA7.out.below hb8
          have PS : Hid (Blk v8 WS [.bool false, .bool false, .bool false] 24) := S7.out.below hb8
          have PN : Hid (Blk v8 NS [.bool false, .bool false, .bool false] 24) := N7.out.below hb8
          have L8 : Hid (Below w.heap.size w v8) := below_then L7.out hb8
          clear hb8 PA7 S7 N7 L7 T7
          have PAX := PA.out
          have PA0 : v8.cell? ⟨A, 0, none⟩ = some (.bool pa) := PAX.cell 0
          have PA1 : v8.cell? ⟨A, 1, none⟩ = some (.bool pb) := PAX.cell 1
          have PA2 : v8.cell? ⟨A, 2, none⟩ = some (.bool pc) := PAX.cell 2
          have PAl := PAX.lt
          clear PAX
          have PSX := PS.out
          have PS0 : v8.cell? ⟨WS, 0, none⟩ = some (.bool false) := PSX.cell 0
          have PS1 : v8.cell? ⟨WS, 1, none⟩ = some (.bool false) := PSX.cell 1
          have PS2 : v8.cell? ⟨WS, 2, none⟩ = some (.bool false) := PSX.cell 2
          have PSl := PSX.lt
          clear PSX
          have PNX := PN.out
          have PN0 : v8.cell? ⟨NS, 0, none⟩ = some (.bool false) := PNX.cell 0
          have PN1 : v8.cell? ⟨NS, 1, none⟩ = some (.bool false) := PNX.cell 1
          have PN2 : v8.cell? ⟨NS, 2, none⟩ = some (.bool false) := PNX.cell 2
          have PNl := PNX.lt
          clear PNX
          have eq := eqPermS
          go_wp2_with fail
          go_ret
          exact ⟨rfl, L8.out⟩
      · have E : Hid (_) := hE
        clear hE
        rcases hd with ⟨hd, hn⟩ | ⟨hd, hd2, hn, hn2⟩
        · have BX := BB.out
          have c0 : wr.cell? ⟨B, 0, none⟩ = some (pp rb) := BX.cell 0
          have c1 : wr.cell? ⟨B, 1, none⟩ = some (pp b) := BX.cell 1
          have c2 : wr.cell? ⟨B, 2, none⟩ = some (pp tb) := BX.cell 2
          have c3 : wr.cell? ⟨B, 3, none⟩ = some (.int .i64 0) := BX.cell 3
          have lB := BX.lt
          clear BX
          go_wp2_with fail
          refine Calls.mono (E.out wr (Below.refl _ _)).1 ?_
          rintro e v1 ⟨rfl, hb1⟩
          have F2 : Hid (Below wr.heap.size wr (v1.alloc (.cells #[.bool x, .bool y, .bool z] 24)) ∧ Blk (v1.alloc (.cells #[.bool x, .bool y, .bool z] 24)) v1.heap.size [.bool x, .bool y, .bool z] 24 ∧ wr.heap.size ≤ v1.heap.size) := ⟨below_new hb1 _, Blk.made v1 [.bool x, .bool y, .bool z] 24, hb1.size⟩
          clear hb1 c0 c1 c2 c3 lB
          go_upto_region 13 with fail
          generalize (v1.alloc (.cells #[.bool x, .bool y, .bool z] 24)) = v2 at F2 ⊢
          generalize v1.heap.size = WS at F2 ⊢
          have B2 : Hid (Blk v2 B [pp rb, pp b, pp tb, .int .i64 0] 29) := BB.out.below F2.out.1
          have A2 : Hid (Blk v2 A [.bool pa, .bool pb, .bool pc] 24) := PB.out.below F2.out.1
          have S2 : Hid (Blk v2 WS [.bool x, .bool y, .bool z] 24 ∧ wr.heap.size ≤ WS) := F2.out.2
          have G2 : Hid (Below wr.heap.size wr v2) := F2.out.1
          clear F2 BB PB
          have BB := B2
          clear B2
          have BX := BB.out
          have c0 : v2.cell? ⟨B, 0, none⟩ = some (pp rb) := BX.cell 0
          have c1 : v2.cell? ⟨B, 1, none⟩ = some (pp b) := BX.cell 1
          have c2 : v2.cell? ⟨B, 2, none⟩ = some (pp tb) := BX.cell 2
          have c3 : v2.cell? ⟨B, 3, none⟩ = some (.int .i64 0) := BX.cell 3
          have lB := BX.lt
          clear BX
          go_wp2_with fail
          refine Calls.mono (E.out v2 G2.out).2.1 ?_
          rintro e v3 ⟨rfl, hb3⟩
          have B3 : Hid (Blk v3 B [pp rb, pp b, pp tb, .int .i64 0] 29) := BB.out.below hb3
          have PA : Hid (Blk v3 A [.bool pa, .bool pb, .bool pc] 24) := A2.out.below hb3
          have S3 : Hid (Blk v3 WS [.bool x, .bool y, .bool z] 24 ∧ wr.heap.size ≤ WS) := ⟨S2.out.1.below hb3, S2.out.2⟩
          have G3 : Hid (Below wr.heap.size wr v3) := below_then G2.out hb3
          clear hb3 BB A2 S2 G2 c0 c1 c2 c3 lB
          have BB := B3
          clear B3
          have BX := BB.out
          have c0 : v3.cell? ⟨B, 0, none⟩ = some (pp rb) := BX.cell 0
          have c1 : v3.cell? ⟨B, 1, none⟩ = some (pp b) := BX.cell 1
          have c2 : v3.cell? ⟨B, 2, none⟩ = some (pp tb) := BX.cell 2
          have c3 : v3.cell? ⟨B, 3, none⟩ = some (.int .i64 0) := BX.cell 3
          have lB := BX.lt
          clear BX
          have PAX := PA.out
          have PA0 : v3.cell? ⟨A, 0, none⟩ = some (.bool pa) := PAX.cell 0
          have PA1 : v3.cell? ⟨A, 1, none⟩ = some (.bool pb) := PAX.cell 1
          have PA2 : v3.cell? ⟨A, 2, none⟩ = some (.bool pc) := PAX.cell 2
          have PAl := PAX.lt
          clear PAX
          go_wp2_with fail
          refine Calls.mono (E.out v3 G3.out).2.2 ?_
          rintro e v4 ⟨rfl, hk4, hE4⟩
          have B4 : Hid (Blk v4 B [pp rb, pp b, pp tb, .int .i64 0] 29) := BB.out.kx hk4 (Or.inl XB.out.1)
          have PA4 : Hid (Blk v4 A [.bool pa, .bool pb, .bool pc] 24) := PA.out.kx hk4 (Or.inl XB.out.2.1)
          have S4 : Hid (Blk v4 WS [.bool x, .bool y, .bool z] 24) := S3.out.1.kx hk4 (Or.inr ⟨S3.out.2, S3.out.1.lt⟩)
          have L4 : Hid (Below w.heap.size w v4) := (below_then LW.out G3.out).trans ⟨hk4.os, hk4.tape, hk4.output, hk4.size, fun j hj => hk4.block j (Or.inl (XB.out.2.2 j hj))⟩
          have E4 : Hid (∀ W'' : World, Below v4.heap.size v4 W'' → Tt.Ask rb b tb root a1 W'' f pa pb pc true ∧ Tt.Use rb b tb W'' u) := hE4
          clear hk4 hE4 BB PA S3 G3 E LW c0 c1 c2 c3 lB PA0 PA1 PA2 PAl
          have BB := B4
          clear B4
          have BX := BB.out
          have c0 : v4.cell? ⟨B, 0, none⟩ = some (pp rb) := BX.cell 0
          have c1 : v4.cell? ⟨B, 1, none⟩ = some (pp b) := BX.cell 1
          have c2 : v4.cell? ⟨B, 2, none⟩ = some (pp tb) := BX.cell 2
          have c3 : v4.cell? ⟨B, 3, none⟩ = some (.int .i64 0) := BX.cell 3
          have lB := BX.lt
          clear BX
          go_wp2_with fail
          refine Calls.mono (E4.out v4 (Below.refl _ _)).1 ?_
          rintro e v5 ⟨rfl, hb5⟩
          have F6 : Hid (Below v4.heap.size v4 (v5.alloc (.cells #[.bool pa, .bool pb, .bool pc] 24)) ∧ Blk (v5.alloc (.cells #[.bool pa, .bool pb, .bool pc] 24)) v5.heap.size [.bool pa, .bool pb, .bool pc] 24) := ⟨below_new hb5 _, Blk.made v5 [.bool pa, .bool pb, .bool pc] 24⟩
          clear hb5 c0 c1 c2 c3 lB
          go_upto_region 16 with fail
          generalize (v5.alloc (.cells #[.bool pa, .bool pb, .bool pc] 24)) = v6 at F6 ⊢
          generalize v5.heap.size = NS at F6 ⊢
          have B6 : Hid (Blk v6 B [pp rb, pp b, pp tb, .int .i64 0] 29) := BB.out.below F6.out.1
          have PA6 : Hid (Blk v6 A [.bool pa, .bool pb, .bool pc] 24) := PA4.out.below F6.out.1
          have S6 : Hid (Blk v6 WS [.bool x, .bool y, .bool z] 24) := S4.out.below F6.out.1
          have N6 : Hid (Blk v6 NS [.bool pa, .bool pb, .bool pc] 24) := F6.out.2
          have L6 : Hid (Below w.heap.size w v6) := below_then L4.out F6.out.1
          have U6 : Hid (Tt.Use rb b tb v6 u) := (E4.out v6 F6.out.1).2
          clear F6 BB PA4 S4 L4 E4
          have BB := B6
          clear B6
          have BX := BB.out
          have c0 : v6.cell? ⟨B, 0, none⟩ = some (pp rb) := BX.cell 0
          have c1 : v6.cell? ⟨B, 1, none⟩ = some (pp b) := BX.cell 1
          have c2 : v6.cell? ⟨B, 2, none⟩ = some (pp tb) := BX.cell 2
          have c3 : v6.cell? ⟨B, 3, none⟩ = some (.int .i64 0) := BX.cell 3
          have lB := BX.lt
          clear BX
          go_wp2_with fail
          refine Calls.mono U6.out ?_
          rintro e v7 ⟨rfl, hb7⟩
          have PA7 : Hid (Blk v7 A [.bool pa, .bool pb, .bool pc] 24) := PA6.out.below hb7
          have S7 : Hid (Blk v7 WS [.bool x, .bool y, .bool z] 24) := S6.out.below hb7
          have N7 : Hid (Blk v7 NS [.bool pa, .bool pb, .bool pc] 24) := N6.out.below hb7
          have L7 : Hid (Below w.heap.size w v7) := below_then L6.out hb7
          have T7 : Hid (Tab v7) := HT.out.below L7.out WP.out
          clear hb7 PA6 S6 N6 L6 U6 BB c0 c1 c2 c3 lB
          go_wp2_with fail
          refine Calls.mono (AW.out v7 T7.out) ?_
          rintro e v8 ⟨rfl, hb8⟩
          have PA : Hid (Blk v8 A [.bool pa, .bool pb, .bool pc] 24) := PA7.out.below hb8
          have PS : Hid (Blk v8 WS [.bool x, .bool y, .bool z] 24) := S7.out.below hb8
          have PN : Hid (Blk v8 NS [.bool pa, .bool pb, .bool pc] 24) := N7.out.below hb8
          have L8 : Hid (Below w.heap.size w v8) := below_then L7.out hb8
          clear hb8 PA7 S7 N7 L7 T7
          have PAX := PA.out
          have PA0 : v8.cell? ⟨A, 0, none⟩ = some (.bool pa) := PAX.cell 0
          have PA1 : v8.cell? ⟨A, 1, none⟩ = some (.bool pb) := PAX.cell 1
          have PA2 : v8.cell? ⟨A, 2, none⟩ = some (.bool pc) := PAX.cell 2
          have PAl := PAX.lt
          clear PAX
          have PSX := PS.out
          have PS0 : v8.cell? ⟨WS, 0, none⟩ = some (.bool x) := PSX.cell 0
          have PS1 : v8.cell? ⟨WS, 1, none⟩ = some (.bool y) := PSX.cell 1
          have PS2 : v8.cell? ⟨WS, 2, none⟩ = some (.bool z) := PSX.cell 2
          have PSl := PSX.lt
          clear PSX
          have PNX := PN.out
          have PN0 : v8.cell? ⟨NS, 0, none⟩ = some (.bool pa) := PNX.cell 0
          have PN1 : v8.cell? ⟨NS, 1, none⟩ = some (.bool pb) := PNX.cell 1
          have PN2 : v8.cell? ⟨NS, 2, none⟩ = some (.bool pc) := PNX.cell 2
          have PNl := PNX.lt
          clear PNX
          have eq := eqPermS
          go_wp2_with fail
          go_ret
          exact ⟨rfl, L8.out⟩
        · have BX := BB.out
          have c0 : wr.cell? ⟨B, 0, none⟩ = some (pp rb) := BX.cell 0
          have c1 : wr.cell? ⟨B, 1, none⟩ = some (pp b) := BX.cell 1
          have c2 : wr.cell? ⟨B, 2, none⟩ = some (pp tb) := BX.cell 2
          have c3 : wr.cell? ⟨B, 3, none⟩ = some (.int .i64 0) := BX.cell 3
          have lB := BX.lt
          clear BX
          go_wp2_with fail
          refine Calls.mono (E.out wr (Below.refl _ _)).1 ?_
          rintro e v1 ⟨rfl, hb1⟩
          have F2 : Hid (Below wr.heap.size wr (v1.alloc (.cells #[.bool x, .bool y, .bool z] 24)) ∧ Blk (v1.alloc (.cells #[.bool x, .bool y, .bool z] 24)) v1.heap.size [.bool x, .bool y, .bool z] 24 ∧ wr.heap.size ≤ v1.heap.size) := ⟨below_new hb1 _, Blk.made v1 [.bool x, .bool y, .bool z] 24, hb1.size⟩
          clear hb1 c0 c1 c2 c3 lB
          go_upto_region 13 with fail
          generalize (v1.alloc (.cells #[.bool x, .bool y, .bool z] 24)) = v2 at F2 ⊢
          generalize v1.heap.size = WS at F2 ⊢
          have B2 : Hid (Blk v2 B [pp rb, pp b, pp tb, .int .i64 0] 29) := BB.out.below F2.out.1
          have A2 : Hid (Blk v2 A [.bool pa, .bool pb, .bool pc] 24) := PB.out.below F2.out.1
          have S2 : Hid (Blk v2 WS [.bool x, .bool y, .bool z] 24 ∧ wr.heap.size ≤ WS) := F2.out.2
          have G2 : Hid (Below wr.heap.size wr v2) := F2.out.1
          clear F2 BB PB
          have BB := B2
          clear B2
          have BX := BB.out
          have c0 : v2.cell? ⟨B, 0, none⟩ = some (pp rb) := BX.cell 0
          have c1 : v2.cell? ⟨B, 1, none⟩ = some (pp b) := BX.cell 1
          have c2 : v2.cell? ⟨B, 2, none⟩ = some (pp tb) := BX.cell 2
          have c3 : v2.cell? ⟨B, 3, none⟩ = some (.int .i64 0) := BX.cell 3
          have lB := BX.lt
          clear BX
          go_wp2_with fail
          refine Calls.mono (E.out v2 G2.out).2.1 ?_
          rintro e v3 ⟨rfl, hb3⟩
          have B3 : Hid (Blk v3 B [pp rb, pp b, pp tb, .int .i64 0] 29) := BB.out.below hb3
          have PA : Hid (Blk v3 A [.bool pa, .bool pb, .bool pc] 24) := A2.out.below hb3
          have S3 : Hid (Blk v3 WS [.bool x, .bool y, .bool z] 24 ∧ wr.heap.size ≤ WS) := ⟨S2.out.1.below hb3, S2.out.2⟩
          have G3 : Hid (Below wr.heap.size wr v3) := below_then G2.out hb3
          clear hb3 BB A2 S2 G2 c0 c1 c2 c3 lB
          have BB := B3
          clear B3
          have BX := BB.out
          have c0 : v3.cell? ⟨B, 0, none⟩ = some (pp rb) := BX.cell 0
          have c1 : v3.cell? ⟨B, 1, none⟩ = some (pp b) := BX.cell 1
          have c2 : v3.cell? ⟨B, 2, none⟩ = some (pp tb) := BX.cell 2
          have c3 : v3.cell? ⟨B, 3, none⟩ = some (.int .i64 0) := BX.cell 3
          have lB := BX.lt
          clear BX
          have PAX := PA.out
          have PA0 : v3.cell? ⟨A, 0, none⟩ = some (.bool pa) := PAX.cell 0
          have PA1 : v3.cell? ⟨A, 1, none⟩ = some (.bool pb) := PAX.cell 1
          have PA2 : v3.cell? ⟨A, 2, none⟩ = some (.bool pc) := PAX.cell 2
          have PAl := PAX.lt
          clear PAX
          go_wp2_with fail
          refine Calls.mono (E.out v3 G3.out).2.2 ?_
          rintro e v4 ⟨rfl, hk4, hE4⟩
          have B4 : Hid (Blk v4 B [pp rb, pp b, pp tb, .int .i64 0] 29) := BB.out.kx hk4 (Or.inl XB.out.1)
          have PA4 : Hid (Blk v4 A [.bool pa, .bool pb, .bool pc] 24) := PA.out.kx hk4 (Or.inl XB.out.2.1)
          have S4 : Hid (Blk v4 WS [.bool x, .bool y, .bool z] 24) := S3.out.1.kx hk4 (Or.inr ⟨S3.out.2, S3.out.1.lt⟩)
          have L4 : Hid (Below w.heap.size w v4) := (below_then LW.out G3.out).trans ⟨hk4.os, hk4.tape, hk4.output, hk4.size, fun j hj => hk4.block j (Or.inl (XB.out.2.2 j hj))⟩
          have E4 : Hid (∀ W'' : World, Below v4.heap.size v4 W'' → Tt.Ask rb b tb root a1 W'' f pa pb pc true ∧ Tt.Use rb b tb W'' u) := hE4
          clear hk4 hE4 BB PA S3 G3 E LW c0 c1 c2 c3 lB PA0 PA1 PA2 PAl
          have BB := B4
          clear B4
          have BX := BB.out
          have c0 : v4.cell? ⟨B, 0, none⟩ = some (pp rb) := BX.cell 0
          have c1 : v4.cell? ⟨B, 1, none⟩ = some (pp b) := BX.cell 1
          have c2 : v4.cell? ⟨B, 2, none⟩ = some (pp tb) := BX.cell 2
          have c3 : v4.cell? ⟨B, 3, none⟩ = some (.int .i64 0) := BX.cell 3
          have lB := BX.lt
          clear BX
          go_wp2_with fail
          refine Calls.mono (E4.out v4 (Below.refl _ _)).1 ?_
          rintro e v5 ⟨rfl, hb5⟩
          have F6 : Hid (Below v4.heap.size v4 (v5.alloc (.cells #[.bool pa, .bool pb, .bool pc] 24)) ∧ Blk (v5.alloc (.cells #[.bool pa, .bool pb, .bool pc] 24)) v5.heap.size [.bool pa, .bool pb, .bool pc] 24) := ⟨below_new hb5 _, Blk.made v5 [.bool pa, .bool pb, .bool pc] 24⟩
          clear hb5 c0 c1 c2 c3 lB
          go_upto_region 16 with fail
          generalize (v5.alloc (.cells #[.bool pa, .bool pb, .bool pc] 24)) = v6 at F6 ⊢
          generalize v5.heap.size = NS at F6 ⊢
          have B6 : Hid (Blk v6 B [pp rb, pp b, pp tb, .int .i64 0] 29) := BB.out.below F6.out.1
          have PA6 : Hid (Blk v6 A [.bool pa, .bool pb, .bool pc] 24) := PA4.out.below F6.out.1
          have S6 : Hid (Blk v6 WS [.bool x, .bool y, .bool z] 24) := S4.out.below F6.out.1
          have N6 : Hid (Blk v6 NS [.bool pa, .bool pb, .bool pc] 24) := F6.out.2
          have L6 : Hid (Below w.heap.size w v6) := below_then L4.out F6.out.1
          have U6 : Hid (Tt.Use rb b tb v6 u) := (E4.out v6 F6.out.1).2
          clear F6 BB PA4 S4 L4 E4
          have BB := B6
          clear B6
          have BX := BB.out
          have c0 : v6.cell? ⟨B, 0, none⟩ = some (pp rb) := BX.cell 0
          have c1 : v6.cell? ⟨B, 1, none⟩ = some (pp b) := BX.cell 1
          have c2 : v6.cell? ⟨B, 2, none⟩ = some (pp tb) := BX.cell 2
          have c3 : v6.cell? ⟨B, 3, none⟩ = some (.int .i64 0) := BX.cell 3
          have lB := BX.lt
          clear BX
          go_wp2_with fail
          refine Calls.mono U6.out ?_
          rintro e v7 ⟨rfl, hb7⟩
          have PA7 : Hid (Blk v7 A [.bool pa, .bool pb, .bool pc] 24) := PA6.out.below hb7
          have S7 : Hid (Blk v7 WS [.bool x, .bool y, .bool z] 24) := S6.out.below hb7
          have N7 : Hid (Blk v7 NS [.bool pa, .bool pb, .bool pc] 24) := N6.out.below hb7
          have L7 : Hid (Below w.heap.size w v7) := below_then L6.out hb7
          have T7 : Hid (Tab v7) := HT.out.below L7.out WP.out
          clear hb7 PA6 S6 N6 L6 U6 BB c0 c1 c2 c3 lB
          go_wp2_with fail
          refine Calls.mono (AW.out v7 T7.out) ?_
          rintro e v8 ⟨rfl, hb8⟩
          have PA : Hid (Blk v8 A [.bool pa, .bool pb, .bool pc] 24) := PA7.out.below hb8
          have PS : Hid (Blk v8 WS [.bool x, .bool y, .bool z] 24) := S7.out.below hb8
          have PN : Hid (Blk v8 NS [.bool pa, .bool pb, .bool pc] 24) := N7.out.below hb8
          have L8 : Hid (Below w.heap.size w v8) := below_then L7.out hb8
          clear hb8 PA7 S7 N7 L7 T7
          have PAX := PA.out
          have PA0 : v8.cell? ⟨A, 0, none⟩ = some (.bool pa) := PAX.cell 0
          have PA1 : v8.cell? ⟨A, 1, none⟩ = some (.bool pb) := PAX.cell 1
          have PA2 : v8.cell? ⟨A, 2, none⟩ = some (.bool pc) := PAX.cell 2
          have PAl := PAX.lt
          clear PAX
          have PSX := PS.out
          have PS0 : v8.cell? ⟨WS, 0, none⟩ = some (.bool x) := PSX.cell 0
          have PS1 : v8.cell? ⟨WS, 1, none⟩ = some (.bool y) := PSX.cell 1
          have PS2 : v8.cell? ⟨WS, 2, none⟩ = some (.bool z) := PSX.cell 2
          have PSl := PSX.lt
          clear PSX
          have PNX := PN.out
          have PN0 : v8.cell? ⟨NS, 0, none⟩ = some (.bool pa) := PNX.cell 0
          have PN1 : v8.cell? ⟨NS, 1, none⟩ = some (.bool pb) := PNX.cell 1
          have PN2 : v8.cell? ⟨NS, 2, none⟩ = some (.bool pc) := PNX.cell 2
          have PNl := PNX.lt
          clear PNX
          have eq := eqPermS
          go_wp2_with fail
          go_ret
          exact ⟨rfl, L8.out⟩
    obtain ⟨hlt, hlt2⟩ := hlt
    have hd : decide ((k : Int) < (n0 : Int)) = true := by simp; omega
    have hd2 : decide ((k : Int) < 20) = true := by simp; omega
    have hd0 : decide ((k : Int) < 0) = false := by simp
    obtain ⟨bq, oq, rfl, lq, y0, y1, y2, y3, y4, y5, gx⟩ := (HA.out.below LW.out) k hlt
    have lq0 : Hid (X bq) := by
      obtain ⟨b', o', e', l', _⟩ := HA.out k hlt
      cases e'
      exact XB.out.2.2 _ l'
    have XQ := lq0
    clear lq0
    generalize A0 k = st at y0 y1 y2 y3 y4 y5 gx
    obtain ⟨kd, pg, fg, qa, qb, qc⟩ := st
    simp only at y0 y1 y2 y3 y4 y5 gx
    have SZ : Hid (Blk wr B [pp rb, pp b, pp tb, .int .i64 0] 29 ∧ wr.cell? ⟨bq, oq + k * 6 + 1, none⟩ = some (.int .i64 pg) ∧ wr.cell? ⟨bq, oq + k * 6 + 2, none⟩ = some (.int .i64 fg) ∧ wr.cell? ⟨bq, oq + k * 6 + 3, none⟩ = some (.bool qa) ∧ wr.cell? ⟨bq, oq + k * 6 + 4, none⟩ = some (.bool qb) ∧ wr.cell? ⟨bq, oq + k * 6 + 5, none⟩ = some (.bool qc)) := ⟨HP.out.2.2, y1, y2, y3, y4, y5⟩
    have MC : Hid (∀ W : World, Went X (pm0 rb b tb 90) root k W → Calls Tryd.prog 9 #[.agg #[pp rb, pp b, pp tb, .int .i64 0], .int .i64 root, .int .i64 pg, .int .i64 fg, .agg #[.bool qa, .bool qb, .bool qc]] W fun e w' => ∃ z : Int, e = .returned (.int .i64 z) ∧ Went X (pm0 rb b tb 90) root (k + 1) w' ∧ Kx X W w') := fun W h => went_map h hlt2 pg fg qa qb qc
    clear y0 y1 y2 y3 y4 y5 gx LW
    go_upto_region 11 with fail
    refine wp_region_noPanic ?_
    refine wp_region_held_drew (S := fun cw => Blk cw B [pp rb, pp b, pp tb, .int .i64 0] 29 ∧ cw.cell? ⟨bq, oq + k * 6 + 1, none⟩ = some (.int .i64 pg) ∧ cw.cell? ⟨bq, oq + k * 6 + 2, none⟩ = some (.int .i64 fg) ∧ cw.cell? ⟨bq, oq + k * 6 + 3, none⟩ = some (.bool qa) ∧ cw.cell? ⟨bq, oq + k * 6 + 4, none⟩ = some (.bool qb) ∧ cw.cell? ⟨bq, oq + k * 6 + 5, none⟩ = some (.bool qc)) (by kernel_rfl) ?_ (fun hHeld => ?_)
    · exact SZ.out
    have GU : Hid (Went X (pm0 rb b tb 90) root k wr.drew ∧ Kx X w2 wr.drew) := ⟨went_drew HP.out.1, HP.out.2.1.trans (kx_drew _ _)⟩
    clear SZ HP
    generalize wr.drew = U at hHeld GU ⊢
    refine wpAnyH_take (i := 0) (oi := ⟨some 55, _, _, _, _, none⟩) (v := (.agg #[pp rb, pp b, pp tb, .int .i64 0])) rfl (by kernel_rfl) (by kernel_rfl) (by kernel_rfl) (fun _ _ _ h => h) (Or.inl ⟨by rfl, ?_⟩) (by assumption) ?_
    · intro w hSw; (try dsimp only at hSw); have r0 := Blk.cell hSw.1 0; have r1 := Blk.cell hSw.1 1; have r2 := Blk.cell hSw.1 2; have r3 := Blk.cell hSw.1 3; (try go_simp); (try simp [*])
    try simp only [Act.put, List.setIfInBounds_toArray, List.set_cons_zero, List.set_cons_succ]
    refine wpAnyH_take (i := 1) (oi := ⟨some 56, _, _, _, _, none⟩) (v := ?_) rfl (by kernel_rfl) (by kernel_rfl) (by kernel_rfl) (fun _ _ _ h => h) (Or.inl ⟨by rfl, ?_⟩) (by assumption) ?_
    rotate_left
    · intro w hSw; (try dsimp only at hSw); go_simp; (try with_reducible rfl)
    try simp only [Act.put, List.setIfInBounds_toArray, List.set_cons_zero, List.set_cons_succ]
    refine wpAnyH_take (i := 2) (oi := ⟨some 57, _, _, _, _, none⟩) (v := ?_) rfl (by kernel_rfl) (by kernel_rfl) (by kernel_rfl) (fun _ _ _ h => h) (Or.inl ⟨by rfl, ?_⟩) (by assumption) ?_
    rotate_left
    · intro w hSw; (try dsimp only at hSw); go_simp; (try with_reducible rfl)
    try simp only [Act.put, List.setIfInBounds_toArray, List.set_cons_zero, List.set_cons_succ]
    refine wpAnyH_take (i := 3) (oi := ⟨some 58, _, _, _, _, none⟩) (v := ?_) rfl (by kernel_rfl) (by kernel_rfl) (by kernel_rfl) (fun _ _ _ h => h) (Or.inl ⟨by rfl, ?_⟩) (by assumption) ?_
    rotate_left
    · intro w hSw; (try dsimp only at hSw); go_simp; (try with_reducible rfl)
    try simp only [Act.put, List.setIfInBounds_toArray, List.set_cons_zero, List.set_cons_succ]
    refine wpAnyH_take (i := 4) (oi := ⟨some 59, _, _, _, _, none⟩) (v := ?_) rfl (by kernel_rfl) (by kernel_rfl) (by kernel_rfl) (fun _ _ _ h => h) (Or.inl ⟨by rfl, ?_⟩) (by assumption) ?_
    rotate_left
    · intro w hSw; (try dsimp only at hSw); go_simp; (try with_reducible rfl)
    try simp only [Act.put, List.setIfInBounds_toArray, List.set_cons_zero, List.set_cons_succ]
    refine wpAnyH_take (i := 5) (oi := ⟨some 60, _, _, _, _, none⟩) (v := ?_) rfl (by kernel_rfl) (by kernel_rfl) (by kernel_rfl) (fun _ _ _ h => h) (Or.inl ⟨by rfl, ?_⟩) (by assumption) ?_
    rotate_left
    · intro w hSw; (try dsimp only at hSw); go_simp; (try with_reducible rfl)
    try simp only [Act.put, List.setIfInBounds_toArray, List.set_cons_zero, List.set_cons_succ]
    refine wpAnyH_take (i := 6) (oi := ⟨some 61, _, _, _, _, none⟩) (v := (.int .i64 pg)) rfl (by kernel_rfl) (by kernel_rfl) (by kernel_rfl) (fun _ _ _ h => h) (Or.inl ⟨by rfl, ?_⟩) (by assumption) ?_
    · intro w hSw; (try dsimp only at hSw); have r := hSw.2.1; (try go_simp); (try simp [*])
    try simp only [Act.put, List.setIfInBounds_toArray, List.set_cons_zero, List.set_cons_succ]
    refine wpAnyH_take (i := 7) (oi := ⟨some 62, _, _, _, _, none⟩) (v := ?_) rfl (by kernel_rfl) (by kernel_rfl) (by kernel_rfl) (fun _ _ _ h => h) (Or.inl ⟨by rfl, ?_⟩) (by assumption) ?_
    rotate_left
    · intro w hSw; (try dsimp only at hSw); go_simp; (try with_reducible rfl)
    try simp only [Act.put, List.setIfInBounds_toArray, List.set_cons_zero, List.set_cons_succ]
    refine wpAnyH_take (i := 8) (oi := ⟨some 63, _, _, _, _, none⟩) (v := ?_) rfl (by kernel_rfl) (by kernel_rfl) (by kernel_rfl) (fun _ _ _ h => h) (Or.inl ⟨by rfl, ?_⟩) (by assumption) ?_
    rotate_left
    · intro w hSw; (try dsimp only at hSw); go_simp; (try with_reducible rfl)
    try simp only [Act.put, List.setIfInBounds_toArray, List.set_cons_zero, List.set_cons_succ]
    refine wpAnyH_take (i := 9) (oi := ⟨some 64, _, _, _, _, none⟩) (v := ?_) rfl (by kernel_rfl) (by kernel_rfl) (by kernel_rfl) (fun _ _ _ h => h) (Or.inl ⟨by rfl, ?_⟩) (by assumption) ?_
    rotate_left
    · intro w hSw; (try dsimp only at hSw); go_simp; (try with_reducible rfl)
    try simp only [Act.put, List.setIfInBounds_toArray, List.set_cons_zero, List.set_cons_succ]
    refine wpAnyH_take (i := 10) (oi := ⟨some 65, _, _, _, _, none⟩) (v := ?_) rfl (by kernel_rfl) (by kernel_rfl) (by kernel_rfl) (fun _ _ _ h => h) (Or.inl ⟨by rfl, ?_⟩) (by assumption) ?_
    rotate_left
    · intro w hSw; (try dsimp only at hSw); go_simp; (try with_reducible rfl)
    try simp only [Act.put, List.setIfInBounds_toArray, List.set_cons_zero, List.set_cons_succ]
    refine wpAnyH_take (i := 11) (oi := ⟨some 66, _, _, _, _, none⟩) (v := (.int .i64 fg)) rfl (by kernel_rfl) (by kernel_rfl) (by kernel_rfl) (fun _ _ _ h => h) (Or.inl ⟨by rfl, ?_⟩) (by assumption) ?_
    · intro w hSw; (try dsimp only at hSw); have r := hSw.2.2.1; (try go_simp); (try simp [*])
    try simp only [Act.put, List.setIfInBounds_toArray, List.set_cons_zero, List.set_cons_succ]
    refine wpAnyH_take (i := 12) (oi := ⟨some 67, _, _, _, _, none⟩) (v := ?_) rfl (by kernel_rfl) (by kernel_rfl) (by kernel_rfl) (fun _ _ _ h => h) (Or.inl ⟨by rfl, ?_⟩) (by assumption) ?_
    rotate_left
    · intro w hSw; (try dsimp only at hSw); go_simp; (try with_reducible rfl)
    try simp only [Act.put, List.setIfInBounds_toArray, List.set_cons_zero, List.set_cons_succ]
    refine wpAnyH_take (i := 13) (oi := ⟨some 68, _, _, _, _, none⟩) (v := ?_) rfl (by kernel_rfl) (by kernel_rfl) (by kernel_rfl) (fun _ _ _ h => h) (Or.inl ⟨by rfl, ?_⟩) (by assumption) ?_
    rotate_left
    · intro w hSw; (try dsimp only at hSw); go_simp; (try with_reducible rfl)
    try simp only [Act.put, List.setIfInBounds_toArray, List.set_cons_zero, List.set_cons_succ]
    refine wpAnyH_take (i := 14) (oi := ⟨some 69, _, _, _, _, none⟩) (v := ?_) rfl (by kernel_rfl) (by kernel_rfl) (by kernel_rfl) (fun _ _ _ h => h) (Or.inl ⟨by rfl, ?_⟩) (by assumption) ?_
    rotate_left
    · intro w hSw; (try dsimp only at hSw); go_simp; (try with_reducible rfl)
    try simp only [Act.put, List.setIfInBounds_toArray, List.set_cons_zero, List.set_cons_succ]
    refine wpAnyH_take (i := 15) (oi := ⟨some 70, _, _, _, _, none⟩) (v := ?_) rfl (by kernel_rfl) (by kernel_rfl) (by kernel_rfl) (fun _ _ _ h => h) (Or.inl ⟨by rfl, ?_⟩) (by assumption) ?_
    rotate_left
    · intro w hSw; (try dsimp only at hSw); go_simp; (try with_reducible rfl)
    try simp only [Act.put, List.setIfInBounds_toArray, List.set_cons_zero, List.set_cons_succ]
    refine wpAnyH_take (i := 16) (oi := ⟨some 71, _, _, _, _, none⟩) (v := (.agg #[.bool qa, .bool qb, .bool qc])) rfl (by kernel_rfl) (by kernel_rfl) (by kernel_rfl) (fun _ _ _ h => h) (Or.inl ⟨by rfl, ?_⟩) (by assumption) ?_
    · intro w hSw; (try dsimp only at hSw); have r := hSw.2.2.2.1; have r1 := hSw.2.2.2.2.1; have r2 := hSw.2.2.2.2.2; have r3 : w.cell? ⟨bq, oq + k * 6 + 3 + 1, none⟩ = some (.bool qb) := r1; have r4 : w.cell? ⟨bq, oq + k * 6 + 3 + 2, none⟩ = some (.bool qc) := r2; (try go_simp); (try simp [*])
    try simp only [Act.put, List.setIfInBounds_toArray, List.set_cons_zero, List.set_cons_succ]
    refine wpAnyH_ready (rs := [17]) (by kernel_rfl) (by simp) ?_
    refine AllReadyH.cons (o := ⟨some 72, _, _, _, _, none⟩) rfl (fun K hK => ?_) AllReadyH.nil
    go_simp
    go_wp2_with (go_at_call 9; refine Calls.mono (MC.out _ GU.out.1) ?_; rintro e u2 ⟨zz, rfl, hW, hk⟩)
    have G2 : Hid (Went X (pm0 rb b tb 90) root (k + 1) u2 ∧ Kx X w2 u2 ∧ Blk u2 B [pp rb, pp b, pp tb, .int .i64 0] 29) := ⟨hW, GU.out.2.trans hk, hHeld.1.kx hk XB.out.1⟩
    have hkc : ∀ j, u2.cell? ⟨bq, j, none⟩ = U.cell? ⟨bq, j, none⟩ := fun j => World.cell?_of_block (hk.block bq XQ.out)
    refine hK.out _ _ ⟨hHeld.1.kx hk XB.out.1, (hkc _).trans hHeld.2.1, (hkc _).trans hHeld.2.2.1, (hkc _).trans hHeld.2.2.2.1, (hkc _).trans hHeld.2.2.2.2.1, (hkc _).trans hHeld.2.2.2.2.2⟩ (fun hHeld2 => ?_)
    clear hK K hHeld hW hk hkc GU
    have hHeld := hHeld2
    clear hHeld2
    try simp only [Act.put, List.setIfInBounds_toArray, List.set_cons_zero, List.set_cons_succ]
    clear hHeld
    refine wpAnyH_done (by kernel_rfl) ?_ _
    refine NoPanic.normal ?_
    go_wp2_with fail
    go_roundw
    case rel => exact ⟨k + 1, by omega, by omega, by go_num, G2⟩
    case measure => simp [Go.RowKit.intOf]; omega

set_option maxRecDepth 100000 in
theorem lifted (os : Os) (started : os.Started) (H : Type) (enc : TypeId × Value → H) :
    ReturnsInHanded {} Tryd.checked os 3 .any (fun w args => (Rows.tableUsesSpec.pre enc Tryd.prog Tryd.f3 [] false w args ∧ laidMetH Tryd.prog laidL w) ∧ sizedMet enc Tryd.prog Tryd.f3 (OpenSpec.ofChange Rows.tableUsesSpec) false w args)
      (Rows.tableUsesSpec.post enc Tryd.prog Tryd.f3 false true false false) := by
  refine returnsInHanded_of_change_and (C := Tryd.checked) (X := fun w _ => laidMetH Tryd.prog laidL w) (fun _ _ _ hh h => h.of_heap hh) own started (by kernel_rfl) Tryd.func3
    (ChangeSpec.witness_shaped (enc := enc) (C := Tryd.checked) (os := os) (X := fun w _ => laidMetH Tryd.prog laidL w) false (World.doorLaid Tryd.prog 400 os) #[.slice none 0 0, .int .i64 0, .agg #[.bool false, .bool false, .bool false]] 8 rfl (World.shaped_of_RefB (by kernel_rfl) (by kernel_rfl)) (by kernel_rfl) (by kernel_rfl) (by kernel_rfl) (door_met os _)) ?_
  intro W base args ds gs before hval0 hW _ _ hL _
  have hval : ∀ (j : Nat) t v, Tryd.f3.params[j]? = some t → args[j]? = some v → Value.okWide Tryd.prog W .any base t v := hval0
  have hW' := hW
  obtain ⟨p, q, hA0, hV, hbef, hfz, hnd⟩ := hW
  have hA : DataW.TrodAll enc Tryd.prog W 0 (fun _ => true) true Tryd.f3.params.toList args.toList ds p := hA0
  have hAk := hA
  have hlt : ∀ x ∈ p, x.block < W.heap.size := fun x hx => hW'.lt x (by rw [hbef]; exact List.mem_append_left _ hx)
  rw [Tryd.params3] at hA hval
  obtain ⟨v0, vs0, d0, ds0, p0, q0, hargs, rfl, hp0, h0, r0⟩ := trodAll_cons hA
  obtain ⟨v1, vs1, d1, ds1, p1, q1, rfl, rfl, hp1, h1, r1⟩ := trodAll_cons r0
  obtain ⟨v2, vs2, d2, ds2, p2, q2, rfl, rfl, hp2, h2, r2⟩ := trodAll_cons r1
  obtain ⟨rfl, rfl, hpz⟩ := trodAll_nil r2
  obtain rfl : args = #[v0, v1, v2] := by cases args; simp_all
  obtain ⟨rfl, rfl⟩ := trodVars_none hV
  obtain ⟨p0, n0, c0, A0, rfl, m0, H0⟩ := open_acts (hval 0 22 v0 rfl rfl) h0
  obtain ⟨a1, rfl, _, _, w1⟩ := open_int Tryd.underlying3 (hval 1 3 v1 rfl rfl) h1
  obtain ⟨s2, rfl, _⟩ := open_pm3 (hval 2 24 v2 rfl rfl) h2
  clear hA0 hval0
  refine (walk p0 n0 c0 A0 m0 a1 w1 s2 W (of_laid hL) H0).mono fun e W' ⟨he, hg⟩ => ?_
  subst he
  exact ⟨_, rfl, ⟨_, _, _, [], p, [], hW', (trodAll_cons_mk (shut_bool Tryd.underlying4 _) trodAll_mk0), args_stay laidOut hg (by kernel_rfl) hAk hlt, rfl, hg.frame _, fun h => by cases h⟩⟩

theorem over : Rows.tableUsesRow.holds Tryd.pinned (OpenSpec.ofChange Rows.tableUsesSpec) :=
  OpenClaim.holds_of_wide 3 Tryd.f3 rfl rfl rfl rfl rfl rfl rfl ⟨rfl, rfl, rfl, rfl, rfl⟩ rfl rfl rfl rfl rfl (by kernel_rfl) Tryd.func3 (by kernel_rfl)
    (of_decide_eq_true (by kernel_rfl)) (by unfold Func.isWrapper; first | (rw [if_pos (by decide +kernel)]; kernel_rfl) | (rw [if_neg (by decide +kernel)]; exact ⟨rfl, rfl⟩))
    (fun os started H enc _ => lifted os started H enc)

theorem proved : Rows.TableUsesCardSaid :=
  Claim7.holds_tied_plain_at .later [] [.data] true (true, "c8641612d6384a53c6a5134efa2f8d70789bd57a053cff0ec062e36e772c1c87") true
    over (fun _ h => by cases h) (by kernel_rfl) (fun _ h => by cases h) tableUses_row_tie rfl ⟨rfl, rfl⟩ (by kernel_rfl) rfl
    (fun f fn hf hfn => by
      obtain rfl : f = 3 := Option.some.inj ((show Tryd.prog.funcNamed "demesne/demesnelaw09.TableUses" = some 3 by kernel_rfl).symm.trans hf) |>.symm
      obtain rfl : fn = Tryd.f3 := (Option.some.inj (Tryd.func3.symm.trans hfn)).symm
      exact ⟨by kernel_rfl, fun j t ht => by
        rw [Tryd.params3] at ht
        have hm : t ∈ [22, 3, 24] := by simpa using Array.mem_of_getElem? ht
        have hall : ([22, 3, 24].all fun u => !Tryd.prog.wantsStandIn u) = true := by kernel_rfl
        exact (show Tryd.prog.wantsStandIn t = false by simpa using List.all_eq_true.1 hall t hm)⟩)
    (by kernel_rfl)
#print axioms proved
end Go.Proofs.YtbpkmmckbhogcabDoor.tableUses
