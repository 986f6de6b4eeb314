/- For any frames from 20 to 600000 and any quota to 1000: Kernel takes 1 and one of every 262144 frames, or nothing where the quota is less; no condition. -/
import Derived.Test.YtbpkmmckbhogcabDoorRows
import Derived.Test.YtbpkmmckbhogcabDoorCards
import Derived.Test.YtbpkmmckbhogcabDoorTie
import Derived.ProofKit
import Derived.OpenShut
import Derived.Stop.Joined
import Derived.SevenTiedAt
import Derived.Test.YtbpkmmckbhogcabDoorMC
namespace Go.Proofs.YtbpkmmckbhogcabDoor.tableKernel
open Go.ChangeShapes Go.WideShapes Go.ChangeAt Go.RowKit
set_option linter.unusedSimpArgs false
set_option linter.unusedVariables false
open Go.Proofs.YtbpkmmckbhogcabDoor.Tt
set_option maxRecDepth 8000

set_option maxHeartbeats 8000000 in
theorem walk (a0 : Int) (w0 : (Lit.int .i64 a0).wf = true) (a1 : Int) (w1 : (Lit.int .i64 a1).wf = true) (w : World) (ht : Tab w)  :
    Calls Tryd.prog 4 #[.int .i64 a0, .int .i64 a1] w fun e w' => e = .returned (.bool true) ∧ Below w.heap.size w w' := by
  have AW : Hid (∀ W : World, Tab W → Calls Tryd.prog 13 #[] W fun e w' => e = .returned (.bool true) ∧ Below W.heap.size W w') := fun W t => awake_any W t
  have HT : Hid (Tab w) := ht
  have WP : Hid (0 < w.heap.size) := ht.1
  clear ht
  by_cases k1 : a0 < 20
  · have d1 : decide (a0 < 20) = true := by simp [k1]
    go_enter Tryd.func4, Tryd.ntmps4
    go_wp2_with fail
    refine Calls.mono (AW.out w HT.out) ?_
    rintro e w1 ⟨rfl, hb⟩
    have HB1 : Hid (Below w.heap.size w w1) := hb
    clear hb
    go_wp2_with fail
    go_ret
    exact ⟨rfl, HB1.out⟩
  have d1 : decide (a0 < 20) = false := by simp; omega
  by_cases k2 : 600000 < a0
  · have d2 : decide (600000 < a0) = true := by simp [k2]
    go_enter Tryd.func4, Tryd.ntmps4
    go_wp2_with fail
    refine Calls.mono (AW.out w HT.out) ?_
    rintro e w1 ⟨rfl, hb⟩
    have HB1 : Hid (Below w.heap.size w w1) := hb
    clear hb
    go_wp2_with fail
    go_ret
    exact ⟨rfl, HB1.out⟩
  have d2 : decide (600000 < a0) = false := by simp; omega
  by_cases k3 : a1 < 0
  · have d3 : decide (a1 < 0) = true := by simp [k3]
    go_enter Tryd.func4, Tryd.ntmps4
    go_wp2_with fail
    refine Calls.mono (AW.out w HT.out) ?_
    rintro e w1 ⟨rfl, hb⟩
    have HB1 : Hid (Below w.heap.size w w1) := hb
    clear hb
    go_wp2_with fail
    go_ret
    exact ⟨rfl, HB1.out⟩
  have d3 : decide (a1 < 0) = false := by simp; omega
  by_cases k4 : 1000 < a1
  · have d4 : decide (1000 < a1) = true := by simp [k4]
    go_enter Tryd.func4, Tryd.ntmps4
    go_wp2_with fail
    refine Calls.mono (AW.out w HT.out) ?_
    rintro e w1 ⟨rfl, hb⟩
    have HB1 : Hid (Below w.heap.size w w1) := hb
    clear hb
    go_wp2_with fail
    go_ret
    exact ⟨rfl, HB1.out⟩
  have d4 : decide (1000 < a1) = false := by simp; omega
  have RC : Hid _ := new5 a0 (by omega) (by omega) w
  have BC : Hid (∀ w : World, _) := fun w => bnew w 20 (by omega) (by omega)
  have QC : Hid (∀ w : World, _) := fun w => Qu.new_ok a1 (by omega) (by omega) w
  have SO : Hid (∀ rb b tb : Nat, Sound (pm0 rb b tb a0) (ps0 (from1 20) a1)) := fun rb b tb => sound0 (by omega) (by omega) (by omega) (by omega)
  go_enter Tryd.func4, Tryd.ntmps4
  go_wp2_with fail
  refine Calls.mono RC.out ?_
  rintro e w1 ⟨rb, K, S, rfl, h5, hK, hS, b01⟩
  have H1 : Hid (Ram5 w1 K S rb (hasF a0) a0 (fun _ => 0) 0 ∧ (∀ j, j < w.heap.size → K j) ∧ (∀ s, s ∈ S → w.heap.size ≤ s) ∧ Below w.heap.size w w1) := ⟨h5, hK, hS, b01⟩
  clear h5 hK hS b01 RC
  go_wp2_with fail
  refine Calls.mono (BC.out w1) ?_
  rintro e w3 ⟨b, NN, rfl, hB, b23⟩
  obtain ⟨w2, hw2⟩ : ∃ w2, w2 = w1.alloc (.cells #[.int .i64 1, .int .i64 20] 50) := ⟨_, rfl⟩
  have b12 : Below w1.heap.size w1 w2 := by rw [hw2]; exact Go.Joins.below_alloc1 _ _
  rw [← hw2] at hB b23
  have H3 : Hid (Bd.Bu (fun j => j < w2.heap.size) w3 b NN (fun i => 1 ≤ i ∧ (i : Int) < 20) Bd.noneF ∧ Below w1.heap.size w1 w2 ∧ Below w2.heap.size w2 w3) := ⟨hB, b12, b23⟩
  clear hB b23 b12 hw2 BC
  go_wp2_with fail
  refine Calls.mono (QC.out w3) ?_
  rintro e w4 ⟨rfl, ⟨hT, b34, _⟩⟩
  have P4 : Hid (Pu (fun j => j < w.heap.size) w4 (pm0 rb b w3.heap.size a0) (ps0 (from1 20) a1) ∧ Below w.heap.size w w4) := ⟨pu_make H1.out.1 H1.out.2.1 H1.out.2.2.1 H1.out.2.2.2 H3.out.2.1 H3.out.1 H3.out.2.2 hT b34 HT.out (SO.out rb b _), below_then (below_then (below_then H1.out.2.2.2 H3.out.2.1) H3.out.2.2) b34⟩
  clear hT b34 QC H1 H3 SO
  obtain ⟨tb, htb⟩ : ∃ tb, tb = w3.heap.size := ⟨_, rfl⟩
  rw [← htb] at P4 ⊢
  clear htb
  obtain ⟨X, hX⟩ : ∃ X : Nat → Prop, X = XW (fun j => j < w.heap.size) w4 (w4.alloc (.cells #[pp rb, pp b, pp tb, .int .i64 0] 29)) := ⟨_, rfl⟩
  have F2 : Hid (Pu X (w4.alloc (.cells #[pp rb, pp b, pp tb, .int .i64 0] 29)) (pm0 rb b tb a0) (ps0 (from1 20) a1) ∧ Blk (w4.alloc (.cells #[pp rb, pp b, pp tb, .int .i64 0] 29)) w4.heap.size [pp rb, pp b, pp tb, .int .i64 0] 29 ∧ X w4.heap.size ∧ (∀ j, j < w.heap.size → X j) ∧ Below w.heap.size w (w4.alloc (.cells #[pp rb, pp b, pp tb, .int .i64 0] 29))) := by
    refine ⟨by rw [hX]; exact P4.out.1.grow (Go.Joins.below_alloc1 _ _), Blk.made w4 [pp rb, pp b, pp tb, .int .i64 0] 29, by rw [hX]; exact Or.inr ⟨Nat.le_refl _, by rw [World.size_alloc]; omega⟩, fun j hj => by rw [hX]; exact Or.inl hj, below_then P4.out.2 (Go.Joins.below_alloc1 _ _)⟩
  clear P4 hX
  go_upto_region 9 with fail
  generalize (w4.alloc (.cells #[pp rb, pp b, pp tb, .int .i64 0] 29)) = w5 at F2 ⊢
  generalize w4.heap.size = B at F2 ⊢
  have XB : Hid (X B ∧ (∀ j, j < w.heap.size → X j) ∧ Below w.heap.size w w5) := ⟨F2.out.2.2.1, F2.out.2.2.2⟩
  have BB : Hid (Blk w5 B [pp rb, pp b, pp tb, .int .i64 0] 29) := F2.out.2.1
  have P0 : Hid (Pu X w5 (pm0 rb b tb a0) (ps0 (from1 20) a1)) := F2.out.1
  have N0 : Hid (Nums (pm0 rb b tb a0) (ps0 (from1 20) a1) 0 a1 0 19) := nums0 (pm0 rb b tb a0) 20 a1 (by omega) (by omega)
  clear F2
  obtain ⟨nt, hnt⟩ : ∃ nt : Nat, (nt : Int) = 1 + (a0 + 262143) / 262144 := ⟨(1 + (a0 + 262143) / 262144).toNat, by omega⟩
  have nt5 : nt ≤ 4 := by omega
  have nt1 : 2 ≤ nt := by omega
  have v1 : IntKind.i64.wrap (a0 + 262144) = a0 + 262144 := by simp only [IntKind.wrap_i64]; omega
  have v2 : IntKind.i64.wrap (a0 + 262144 - 1) = a0 + 262144 - 1 := by simp only [IntKind.wrap_i64]; omega
  have v3 : (a0 + 262144 - 1) / 262144 = (nt : Int) - 1 := by omega
  have v4 : IntKind.i64.wrap ((nt : Int) - 1) = (nt : Int) - 1 := by simp only [IntKind.wrap_i64]; omega
  have v5 : IntKind.i64.wrap (1 + ((nt : Int) - 1)) = (nt : Int) := by simp only [IntKind.wrap_i64]; omega
  have v6 : 1 + ((nt : Int) - 1) = (nt : Int) := by omega
  have v7 : IntKind.i64.wrap (nt : Int) = (nt : Int) := by simp only [IntKind.wrap_i64]; omega
  have v8 : IntKind.i64.wrap (19 - (nt : Int)) = 19 - (nt : Int) := by simp only [IntKind.wrap_i64]; omega
  have BX := BB.out
  have c0 : w5.cell? ⟨B, 0, none⟩ = some (pp rb) := BX.cell 0
  have c1 : w5.cell? ⟨B, 1, none⟩ = some (pp b) := BX.cell 1
  have c2 : w5.cell? ⟨B, 2, none⟩ = some (pp tb) := BX.cell 2
  have c3 : w5.cell? ⟨B, 3, none⟩ = some (.int .i64 0) := BX.cell 3
  have lB := BX.lt
  clear BX
  by_cases kq : a1 < (nt : Int)
  · have q1 : decide (a1 < (nt : Int)) = true := by simp [kq]
    have KC : Hid (Calls Tryd.prog 7 #[.agg #[pp rb, pp b, pp tb, .int .i64 0]] w5 fun e w' => e = .returned (.tuple #[.int .i64 0, .int .i64 8]) ∧ Pu X w' (pm0 rb b tb a0) (ps0 (from1 20) a1) ∧ Kx X w5 w') := kernel_no P0.out (by show (1 : Int) ≤ a0; omega) 0 (N0.out.box (by omega)) (by rw [N0.out.room]; show a1 < 1 + (a0 + 262143) / 262144; omega) (by rw [N0.out.room]; omega)
    clear hnt
    go_wp2_with fail
    refine Calls.mono KC.out ?_
    rintro e w6 ⟨rfl, hp6, hk6⟩
    have B6 : Hid (Blk w6 B [pp rb, pp b, pp tb, .int .i64 0] 29) := BB.out.kx hk6 XB.out.1
    have L6 : Hid (Below w.heap.size w w6) := XB.out.2.2.trans ⟨hk6.os, hk6.tape, hk6.output, hk6.size, fun j hj => hk6.block j (XB.out.2.1 j hj)⟩
    have T6 : Hid (Tab w6) := HT.out.below L6.out WP.out
    obtain ⟨s6, hs6⟩ : ∃ s6 : Ps, s6 = ps0 (from1 20) a1 := ⟨_, rfl⟩
    have P6 : Hid (Pu X w6 (pm0 rb b tb a0) s6 ∧ True) := by rw [hs6]; exact ⟨hp6, trivial⟩
    have N6 : Hid (Nums (pm0 rb b tb a0) s6 0 a1 0 19) := by rw [hs6]; exact N0.out
    clear hs6 hp6 hk6 BB P0 N0 KC c0 c1 c2 c3 lB
    have BB := B6
    clear B6
    have BX := BB.out
    have c0 : w6.cell? ⟨B, 0, none⟩ = some (pp rb) := BX.cell 0
    have c1 : w6.cell? ⟨B, 1, none⟩ = some (pp b) := BX.cell 1
    have c2 : w6.cell? ⟨B, 2, none⟩ = some (pp tb) := BX.cell 2
    have c3 : w6.cell? ⟨B, 3, none⟩ = some (.int .i64 0) := BX.cell 3
    have lB := BX.lt
    clear BX
    go_wp2_with fail
    refine Calls.mono (AW.out w6 T6.out) ?_
    rintro e w7 ⟨rfl, hb7⟩
    have B7 : Hid (Blk w7 B [pp rb, pp b, pp tb, .int .i64 0] 29) := BB.out.below hb7
    have P7 : Hid (Pu X w7 (pm0 rb b tb a0) s6) := P6.out.1.below hb7
    have L7 : Hid (Below w.heap.size w w7) := below_then L6.out hb7
    have N7 := N6
    clear hb7 BB P6 L6 N6 c0 c1 c2 c3 lB
    have BB := B7
    clear B7
    have UC : Hid (Calls Tryd.prog 11 #[.agg #[pp rb, pp b, pp tb, .int .i64 0]] w7 fun e w' => e = .returned (.int .i64 0) ∧ Below w7.heap.size w7 w') := by
      have q := used_c P7.out 0
      rw [N7.out.get] at q
      exact q
    have BX := BB.out
    have c0 : w7.cell? ⟨B, 0, none⟩ = some (pp rb) := BX.cell 0
    have c1 : w7.cell? ⟨B, 1, none⟩ = some (pp b) := BX.cell 1
    have c2 : w7.cell? ⟨B, 2, none⟩ = some (pp tb) := BX.cell 2
    have c3 : w7.cell? ⟨B, 3, none⟩ = some (.int .i64 0) := BX.cell 3
    have lB := BX.lt
    clear BX
    go_wp2_with fail
    refine Calls.mono UC.out ?_
    rintro e w8 ⟨rfl, hb8⟩
    have FC : Hid (Calls Tryd.prog 17 #[pp b] w8 fun e w' => e = .returned (.int .i64 19) ∧ w' = w8) := by
      have q := (P7.out.below hb8).free
      rw [N7.out.free] at q
      exact q
    have L8 : Hid (Below w.heap.size w w8) := below_then L7.out hb8
    clear hb8 UC BB c0 c1 c2 c3 lB P7 N7 L7
    go_wp2_with fail
    refine Calls.mono FC.out ?_
    rintro e w9 ⟨rfl, rfl⟩
    clear FC
    go_wp2_with fail
    go_ret
    exact ⟨rfl, L8.out⟩
  have q1 : decide (a1 < (nt : Int)) = false := by simp; omega
  have KC : Hid (Calls Tryd.prog 7 #[.agg #[pp rb, pp b, pp tb, .int .i64 0]] w5 fun e w' => ∃ (L : List Nat) (kf : Nat), e = .returned (.tuple #[.int .i64 kf, .int .i64 0]) ∧ (L.length = nt ∧ InL (ps0 (from1 20) a1) L ∧ kf ∈ L) ∧ Wrote X w5 (pm0 rb b tb a0) (ps0 (from1 20) a1) 0 L w') := by
    refine (kernel_ok P0.out (by show (1 : Int) ≤ a0; omega) 0 (N0.out.box (by omega)) (by show 0 < _; omega) (by rw [N0.out.room]; show 1 + (a0 + 262143) / 262144 ≤ a1; omega)).mono ?_
    rintro e w' ⟨L, kf, he, ⟨h1, h2⟩, hw⟩
    have h1' : (L.length : Int) = 1 + (a0 + 262143) / 262144 := h1
    exact ⟨L, kf, he, ⟨by omega, h2⟩, hw⟩
  clear hnt
  go_wp2_with fail
  refine Calls.mono KC.out ?_
  rintro e w6 ⟨L, kf, rfl, ⟨hl, IN, hkf⟩, M6, hp6, hk6, ho6⟩
  have B6 : Hid (Blk w6 B [pp rb, pp b, pp tb, .int .i64 0] 29) := BB.out.kx hk6 XB.out.1
  have L6 : Hid (Below w.heap.size w w6) := XB.out.2.2.trans ⟨hk6.os, hk6.tape, hk6.output, hk6.size, fun j hj => hk6.block j (XB.out.2.1 j hj)⟩
  have T6 : Hid (Tab w6) := HT.out.below L6.out WP.out
  have N6' : Hid (Nums (pm0 rb b tb a0) _ 0 (a1 - L.length) (0 + L.length) (19 - L.length)) := N0.out.take P0.out.so IN M6 (0 + 5000)
  obtain ⟨s6, hs6⟩ : ∃ s6 : Ps, s6 = { takeS (ps0 (from1 20) a1) 0 L with M := M6, q := 0 + 5000 } := ⟨_, rfl⟩
  have P6 : Hid (Pu X w6 (pm0 rb b tb a0) s6 ∧ True) := by rw [hs6]; exact ⟨hp6, trivial⟩
  have N6 : Hid (Nums (pm0 rb b tb a0) s6 0 (a1 - nt) nt (19 - nt)) := by
    have q := N6'.out
    rw [← hs6, hl, Int.zero_add] at q
    exact q
  clear hs6 hl IN hkf hp6 hk6 ho6 N6' BB P0 N0 KC c0 c1 c2 c3 lB
  have BB := B6
  clear B6
  have BX := BB.out
  have c0 : w6.cell? ⟨B, 0, none⟩ = some (pp rb) := BX.cell 0
  have c1 : w6.cell? ⟨B, 1, none⟩ = some (pp b) := BX.cell 1
  have c2 : w6.cell? ⟨B, 2, none⟩ = some (pp tb) := BX.cell 2
  have c3 : w6.cell? ⟨B, 3, none⟩ = some (.int .i64 0) := BX.cell 3
  have lB := BX.lt
  clear BX
  go_wp2_with fail
  refine Calls.mono (AW.out w6 T6.out) ?_
  rintro e w7 ⟨rfl, hb7⟩
  have B7 : Hid (Blk w7 B [pp rb, pp b, pp tb, .int .i64 0] 29) := BB.out.below hb7
  have P7 : Hid (Pu X w7 (pm0 rb b tb a0) s6) := P6.out.1.below hb7
  have L7 : Hid (Below w.heap.size w w7) := below_then L6.out hb7
  have N7 := N6
  clear hb7 BB P6 L6 N6 c0 c1 c2 c3 lB
  have BB := B7
  clear B7
  have UC : Hid (Calls Tryd.prog 11 #[.agg #[pp rb, pp b, pp tb, .int .i64 0]] w7 fun e w' => e = .returned (.int .i64 nt) ∧ Below w7.heap.size w7 w') := by
    have q := used_c P7.out 0
    rw [N7.out.get] at q
    exact q
  have BX := BB.out
  have c0 : w7.cell? ⟨B, 0, none⟩ = some (pp rb) := BX.cell 0
  have c1 : w7.cell? ⟨B, 1, none⟩ = some (pp b) := BX.cell 1
  have c2 : w7.cell? ⟨B, 2, none⟩ = some (pp tb) := BX.cell 2
  have c3 : w7.cell? ⟨B, 3, none⟩ = some (.int .i64 0) := BX.cell 3
  have lB := BX.lt
  clear BX
  go_wp2_with fail
  refine Calls.mono UC.out ?_
  rintro e w8 ⟨rfl, hb8⟩
  have FC : Hid (Calls Tryd.prog 17 #[pp b] w8 fun e w' => e = .returned (.int .i64 (19 - (nt : Int))) ∧ w' = w8) := by
    have q := (P7.out.below hb8).free
    rw [N7.out.free] at q
    rw [show ((19 - nt : Nat) : Int) = 19 - (nt : Int) by omega] at q
    exact q
  have L8 : Hid (Below w.heap.size w w8) := below_then L7.out hb8
  clear hb8 UC BB c0 c1 c2 c3 lB P7 N7 L7
  go_wp2_with fail
  refine Calls.mono FC.out ?_
  rintro e w9 ⟨rfl, rfl⟩
  clear FC
  go_wp2_with fail
  go_ret
  exact ⟨rfl, L8.out⟩

set_option maxRecDepth 100000 in
theorem lifted (os : Os) (started : os.Started) (H : Type) (enc : TypeId × Value → H) :
    ReturnsInHanded {} Tryd.checked os 4 .any (fun w args => (Rows.tableKernelSpec.pre enc Tryd.prog Tryd.f4 [] false w args ∧ laidMetH Tryd.prog laidL w) ∧ sizedMet enc Tryd.prog Tryd.f4 (OpenSpec.ofChange Rows.tableKernelSpec) false w args)
      (Rows.tableKernelSpec.post enc Tryd.prog Tryd.f4 false true false false) := by
  refine returnsInHanded_of_change_and (C := Tryd.checked) (X := fun w _ => laidMetH Tryd.prog laidL w) (fun _ _ _ hh h => h.of_heap hh) own started (by kernel_rfl) Tryd.func4
    (ChangeSpec.witness_shaped (enc := enc) (C := Tryd.checked) (os := os) (X := fun w _ => laidMetH Tryd.prog laidL w) false (World.doorLaid Tryd.prog 400 os) #[.int .i64 0, .int .i64 0] 8 rfl (World.shaped_of_RefB (by kernel_rfl) (by kernel_rfl)) (by kernel_rfl) (by kernel_rfl) (by kernel_rfl) (door_met os _)) ?_
  intro W base args ds gs before hval0 hW _ _ hL _
  have hval : ∀ (j : Nat) t v, Tryd.f4.params[j]? = some t → args[j]? = some v → Value.okWide Tryd.prog W .any base t v := hval0
  have hW' := hW
  obtain ⟨p, q, hA0, hV, hbef, hfz, hnd⟩ := hW
  have hA : DataW.TrodAll enc Tryd.prog W 0 (fun _ => true) true Tryd.f4.params.toList args.toList ds p := hA0
  have hAk := hA
  have hlt : ∀ x ∈ p, x.block < W.heap.size := fun x hx => hW'.lt x (by rw [hbef]; exact List.mem_append_left _ hx)
  rw [Tryd.params4] at hA hval
  obtain ⟨v0, vs0, d0, ds0, p0, q0, hargs, rfl, hp0, h0, r0⟩ := trodAll_cons hA
  obtain ⟨v1, vs1, d1, ds1, p1, q1, rfl, rfl, hp1, h1, r1⟩ := trodAll_cons r0
  obtain ⟨rfl, rfl, hpz⟩ := trodAll_nil r1
  obtain rfl : args = #[v0, v1] := by cases args; simp_all
  obtain ⟨rfl, rfl⟩ := trodVars_none hV
  obtain ⟨a0, rfl, _, _, w0⟩ := open_int Tryd.underlying3 (hval 0 3 v0 rfl rfl) h0
  obtain ⟨a1, rfl, _, _, w1⟩ := open_int Tryd.underlying3 (hval 1 3 v1 rfl rfl) h1
  clear hA0 hval0
  refine (walk a0 w0 a1 w1 W (of_laid hL) ).mono fun e W' ⟨he, hg⟩ => ?_
  subst he
  exact ⟨_, rfl, ⟨_, _, _, [], p, [], hW', (trodAll_cons_mk (shut_bool Tryd.underlying4 _) trodAll_mk0), args_stay laidOut hg (by kernel_rfl) hAk hlt, rfl, hg.frame _, fun h => by cases h⟩⟩

theorem over : Rows.tableKernelRow.holds Tryd.pinned (OpenSpec.ofChange Rows.tableKernelSpec) :=
  OpenClaim.holds_of_wide 4 Tryd.f4 rfl rfl rfl rfl rfl rfl rfl ⟨rfl, rfl, rfl, rfl, rfl⟩ rfl rfl rfl rfl rfl (by kernel_rfl) Tryd.func4 (by kernel_rfl)
    (of_decide_eq_true (by kernel_rfl)) (by unfold Func.isWrapper; first | (rw [if_pos (by decide +kernel)]; kernel_rfl) | (rw [if_neg (by decide +kernel)]; exact ⟨rfl, rfl⟩))
    (fun os started H enc _ => lifted os started H enc)

theorem proved : Rows.TableKernelCardSaid :=
  Claim7.holds_tied_plain_at .later [] [.data] true (true, "c8641612d6384a53c6a5134efa2f8d70789bd57a053cff0ec062e36e772c1c87") true
    over (fun _ h => by cases h) (by kernel_rfl) (fun _ h => by cases h) tableKernel_row_tie rfl ⟨rfl, rfl⟩ (by kernel_rfl) rfl
    (fun f fn hf hfn => by
      obtain rfl : f = 4 := Option.some.inj ((show Tryd.prog.funcNamed "demesne/demesnelaw09.TableKernel" = some 4 by kernel_rfl).symm.trans hf) |>.symm
      obtain rfl : fn = Tryd.f4 := (Option.some.inj (Tryd.func4.symm.trans hfn)).symm
      exact ⟨by kernel_rfl, fun j t ht => by
        rw [Tryd.params4] at ht
        have hm : t ∈ [3, 3] := by simpa using Array.mem_of_getElem? ht
        have hall : ([3, 3].all fun u => !Tryd.prog.wantsStandIn u) = true := by kernel_rfl
        exact (show Tryd.prog.wantsStandIn t = false by simpa using List.all_eq_true.1 hall t hm)⟩)
    (by kernel_rfl)
#print axioms proved
end Go.Proofs.YtbpkmmckbhogcabDoor.tableKernel
