/- For any size, any holes and any frame: a memory is made or refused as the document's words say, and has just the frames that are not in holes; no condition. -/
import Derived.Test.YtglgdplhgioafaaRows
import Derived.ProofKit
import Derived.OpenShut
import Derived.Carry
import Derived.Test.YtglgdplhgioafaaN4
namespace Go.Proofs.Ytglgdplhgioafaa.ramNews
open Go.ChangeShapes Go.WideShapes Go.ChangeAt Go.RowKit Go.Maps
set_option linter.unusedSimpArgs false
set_option linter.unusedVariables false

set_option maxRecDepth 8000 in
set_option maxHeartbeats 4000000 in
theorem walk (a0 : Int) (w0 : (Lit.int .i64 a0).wf = true) (p1 : Option Addr) (n1 c1 : Nat) (F1 : Nat → Int × Int) (m1 : n1 ≤ maxLen) (l1 : n1 ≤ c1) (a2 : Int) (w2 : (Lit.int .i64 a2).wf = true) (w : World) (H1 : IsRgs w p1 n1 F1) :
    Calls Try.prog 3 #[.int .i64 a0, .slice p1 n1 c1, .int .i64 a2] w fun e w' => e = .returned (.bool true) ∧ Below w.heap.size w w' := by
  have AWH : Hid (∀ W : World, Calls Try.prog 8 #[] W fun e w' => e = .returned (.bool true) ∧ Below W.heap.size W w') := fun W => awake_any W
  have FW : Hid (Calls Try.prog 5 #[.slice p1 n1 c1] w fun e w' => ∃ g cap hs, e = .returned (.slice (some ⟨g, 0, none⟩) (List.length hs) cap) ∧ List.length hs ≤ 70 ∧ g < w'.heap.size ∧ HolesAt w' g hs ∧ Below w.heap.size w w') := few_any p1 n1 c1 F1 w H1 l1 m1
  have r0 := w0
  simp [Lit.wf, IntKind.min, IntKind.max, IntKind.signed, IntKind.bits] at r0
  clear H1 l1
  go_enter Try.func3, Try.ntmps3
  go_wp2_with fail
  refine FW.out.mono ?_
  rintro e u1 ⟨g, cap, hs, rfl, l7, k2, k3, hb1⟩
  have B1 : Hid (Below w.heap.size w u1) := hb1
  have H1 : Hid (HolesAt u1 g hs) := k3
  have g1 : Hid (g < u1.heap.size) := k2
  clear hb1 k3 k2 FW
  have CK : Hid (∀ W : World, HolesAt W g hs → g < W.heap.size → Calls Try.prog 7 #[.int .i64 a0, .slice (some ⟨g, 0, none⟩) hs.length cap] W fun e w' => e = .returned (.int .i64 (chkR a0 hs)) ∧ Below W.heap.size W w') := fun W h1 h2 => rcheck_any a0 g cap hs W h1 h2 l7
  by_cases hz : chkR a0 hs = 0
  · obtain ⟨f0, f1, l64, good⟩ := chk_zero hz
    rw [hz] at CK
    have NW : Hid (∀ W : World, HolesAt W g hs → g < W.heap.size → Calls Try.prog 6 #[.int .i64 a0, .slice (some ⟨g, 0, none⟩) hs.length cap] W fun e w' => ∃ rb g' cap', e = .returned (.tuple #[.pointer (some ⟨rb, 0, none⟩), .int .i64 0]) ∧ RawR w' rb g' cap' a0 hs ∧ Below W.heap.size W w') := fun W h1 h2 => new_raw a0 f0 f1 g cap hs W l64 h1 h2 good
    have RH : Hid (∀ (k : Int) (W : World), HolesAt W g hs → g < W.heap.size → Calls Try.prog 11 #[.agg #[.int .i64 a0, .slice (some ⟨g, 0, none⟩) hs.length cap, .map none], .int .i64 k] W fun e w' => e = .returned (.bool (hasH a0 hs k)) ∧ Below W.heap.size W w') := fun k W h1 h2 => rhas_any a0 k g cap hs W h1 h2 l7
    have HM : Hid (hasH a0 hs (-1) = false) := has_minus a0 hs
    have HT : Hid (hasH a0 hs a0 = false) := has_top a0 hs
    clear hz good
    go_wp2_with fail
    refine (NW.out _ H1.out g1.out).mono ?_
    rintro e u2 ⟨rb, g', cap', rfl, hr, hb2⟩
    have R2 : Hid (RawR u2 rb g' cap' a0 hs) := hr
    have H2 : Hid (HolesAt u2 g hs) := holes_below H1.out g1.out hb2
    have g2 : Hid (g < u2.heap.size) := Nat.lt_of_lt_of_le g1.out hb2.size
    have B2 : Hid (Below w.heap.size w u2) := below_then B1.out hb2
    clear hr hb2 H1 g1 B1 NW
    go_wp2_with fail
    refine (CK.out _ H2.out g2.out).mono ?_
    rintro e u3 ⟨rfl, hb3⟩
    have R3 : Hid (RawR u3 rb g' cap' a0 hs) := R2.out.below hb3
    have H3 : Hid (HolesAt u3 g hs) := holes_below H2.out g2.out hb3
    have g3 : Hid (g < u3.heap.size) := Nat.lt_of_lt_of_le g2.out hb3.size
    have B3 : Hid (Below w.heap.size w u3) := below_then B2.out hb3
    clear hb3 H2 g2 B2 R2 CK
    go_wp2_with fail
    refine (AWH.out _).mono ?_
    rintro e u4 ⟨rfl, hb4⟩
    have R4 : Hid (RawR u4 rb g' cap' a0 hs) := R3.out.below hb4
    have H4 : Hid (HolesAt u4 g hs) := holes_below H3.out g3.out hb4
    have g4 : Hid (g < u4.heap.size) := Nat.lt_of_lt_of_le g3.out hb4.size
    have B4 : Hid (Below w.heap.size w u4) := below_then B3.out hb4
    clear hb4 H3 g3 B3 R3
    go_wp2_with fail
    refine wp_region_noPanic ?_
    refine wp_region_held_drew (S := fun c => c.cell? ⟨u4.heap.size, 0, none⟩ = some (.int .i64 a0) ∧ c.cell? ⟨u4.heap.size, 1, none⟩ = some (.slice (some ⟨g, 0, none⟩) hs.length cap) ∧ c.cell? ⟨u4.heap.size, 2, none⟩ = some (.map none)) (by kernel_rfl) ?_ (fun hHeld => ?_)
    · exact ⟨by simp, by simp, by simp⟩
    have BA : Below u4.heap.size u4 (u4.alloc (.cells #[.int .i64 a0, .slice (some ⟨g, 0, none⟩) hs.length cap, .map none] 32)).drew := below_drew (Go.Joins.below_alloc1 _ _)
    have RU : Hid (RawR (u4.alloc (.cells #[.int .i64 a0, .slice (some ⟨g, 0, none⟩) hs.length cap, .map none] 32)).drew rb g' cap' a0 hs) := R4.out.below BA
    have HU : Hid (HolesAt (u4.alloc (.cells #[.int .i64 a0, .slice (some ⟨g, 0, none⟩) hs.length cap, .map none] 32)).drew g hs) := holes_below H4.out g4.out BA
    have gU : Hid (g < (u4.alloc (.cells #[.int .i64 a0, .slice (some ⟨g, 0, none⟩) hs.length cap, .map none] 32)).drew.heap.size) := Nat.lt_of_lt_of_le g4.out BA.size
    have BU : Hid (Below w.heap.size w (u4.alloc (.cells #[.int .i64 a0, .slice (some ⟨g, 0, none⟩) hs.length cap, .map none] 32)).drew) := below_then B4.out BA
    have lU : Hid (u4.heap.size < (u4.alloc (.cells #[.int .i64 a0, .slice (some ⟨g, 0, none⟩) hs.length cap, .map none] 32)).drew.heap.size) := by show u4.heap.size < (World.alloc _ _).heap.size; simp
    clear BA R4 H4 g4 B4
    refine wpAnyH_take (i := 0) (oi := ⟨some 36, _, _, _, _, none⟩) (v := ?_) rfl (by kernel_rfl) (by kernel_rfl) (by kernel_rfl) (fun _ _ _ h => h) (Or.inl ⟨by rfl, ?_⟩) (by assumption) ?_
    rotate_left
    · intro w hSw; (try dsimp only at hSw); go_simp; (try with_reducible rfl)
    try simp only [Act.put, List.setIfInBounds_toArray, List.set_cons_zero, List.set_cons_succ]
    refine wpAnyH_take (i := 1) (oi := ⟨some 37, _, _, _, _, none⟩) (v := .bool true) rfl (by kernel_rfl) (by kernel_rfl) (by kernel_rfl) (fun _ _ _ h => h) (Or.inl ⟨by rfl, ?_⟩) (by assumption) ?_
    · intro w hSw; (try dsimp only at hSw); go_simp; (try simp)
    try simp only [Act.put, List.setIfInBounds_toArray, List.set_cons_zero, List.set_cons_succ]
    refine wpAnyH_take (i := 2) (oi := ⟨some 38, _, _, _, _, none⟩) (v := ?_) rfl (by kernel_rfl) (by kernel_rfl) (by kernel_rfl) (fun _ _ _ h => h) (Or.inl ⟨by rfl, ?_⟩) (by assumption) ?_
    rotate_left
    · intro w hSw; (try dsimp only at hSw); go_simp; (try with_reducible rfl)
    try simp only [Act.put, List.setIfInBounds_toArray, List.set_cons_zero, List.set_cons_succ]
    refine wpAnyH_take (i := 3) (oi := ⟨some 39, _, _, _, _, some (2, true)⟩) (v := ?_) rfl (by kernel_rfl) (by kernel_rfl) (by kernel_rfl) (fun _ _ _ h => h) (Or.inl ⟨by rfl, ?_⟩) (by assumption) ?_
    rotate_left
    · intro w hSw; (try dsimp only at hSw); go_simp; (try with_reducible rfl)
    try simp only [Act.put, List.setIfInBounds_toArray, List.set_cons_zero, List.set_cons_succ]
    refine wpAnyH_take (i := 5) (oi := ⟨some 41, _, _, _, _, some (2, true)⟩) (v := ?_) rfl (by kernel_rfl) (by kernel_rfl) (by kernel_rfl) (fun _ _ _ h => h) (Or.inl ⟨by rfl, ?_⟩) (by assumption) ?_
    rotate_left
    · intro w hSw; (try dsimp only at hSw); go_simp; (try with_reducible rfl)
    try simp only [Act.put, List.setIfInBounds_toArray, List.set_cons_zero, List.set_cons_succ]
    generalize (u4.alloc (.cells #[.int .i64 a0, .slice (some ⟨g, 0, none⟩) hs.length cap, .map none] 32)).drew = U at RU HU gU BU lU hHeld ⊢
    refine wpAnyH_ready (rs := [4]) (by kernel_rfl) (by simp) ?_
    refine AllReadyH.cons (o := ⟨some 40, _, _, _, _, some (2, true)⟩) rfl (fun K hK => ?_) AllReadyH.nil
    go_simp
    go_wp2_with (go_at_call 9; refine (frames_any rb g' cap' a0 hs _ RU.out).mono ?_; rintro e v1 ⟨rfl, hb⟩)
    have Rv1 : Hid (RawR v1 rb g' cap' a0 hs) := RU.out.below hb
    have Hv1 : Hid (HolesAt v1 g hs) := holes_below HU.out gU.out hb
    have gv1 : Hid (g < v1.heap.size) := Nat.lt_of_lt_of_le gU.out hb.size
    have Bv1 : Hid (Below w.heap.size w v1) := below_then BU.out hb
    have lv1 : Hid (u4.heap.size < v1.heap.size) := Nat.lt_of_lt_of_le lU.out hb.size
    obtain ⟨y0, y1, y2⟩ := hHeld
    refine hK.out _ _ ⟨(hb.cell (p := ⟨u4.heap.size, 0, none⟩) lU.out).trans y0, (hb.cell (p := ⟨u4.heap.size, 1, none⟩) lU.out).trans y1, (hb.cell (p := ⟨u4.heap.size, 2, none⟩) lU.out).trans y2⟩ (fun hHeld => ?_)
    clear hK K hb y0 y1 y2 RU HU gU BU lU
    try simp only [Act.put, List.setIfInBounds_toArray, List.set_cons_zero, List.set_cons_succ]
    refine wpAnyH_take (i := 6) (oi := ⟨some 42, _, _, _, _, some (2, true)⟩) (v := .bool true) rfl (by kernel_rfl) (by kernel_rfl) (by kernel_rfl) (fun _ _ _ h => h) (Or.inl ⟨by rfl, ?_⟩) (by assumption) ?_
    · intro w hSw; (try dsimp only at hSw); go_simp; (try simp)
    try simp only [Act.put, List.setIfInBounds_toArray, List.set_cons_zero, List.set_cons_succ]
    refine wpAnyH_take (i := 7) (oi := ⟨some 43, _, _, _, _, none⟩) (v := ?_) rfl (by kernel_rfl) (by kernel_rfl) (by kernel_rfl) (fun _ _ _ h => h) (Or.inl ⟨by rfl, ?_⟩) (by assumption) ?_
    rotate_left
    · intro w hSw; (try dsimp only at hSw); go_simp; (try with_reducible rfl)
    try simp only [Act.put, List.setIfInBounds_toArray, List.set_cons_zero, List.set_cons_succ]
    refine wpAnyH_take (i := 8) (oi := ⟨some 44, _, _, _, _, none⟩) (v := ?_) rfl (by kernel_rfl) (by kernel_rfl) (by kernel_rfl) (fun _ _ _ h => h) (Or.inl ⟨by rfl, ?_⟩) (by assumption) ?_
    rotate_left
    · intro w hSw; (try dsimp only at hSw); go_simp; (try with_reducible rfl)
    try simp only [Act.put, List.setIfInBounds_toArray, List.set_cons_zero, List.set_cons_succ]
    refine wpAnyH_take (i := 9) (oi := ⟨some 45, _, _, _, _, some (8, true)⟩) (v := ?_) rfl (by kernel_rfl) (by kernel_rfl) (by kernel_rfl) (fun _ _ _ h => h) (Or.inl ⟨by rfl, ?_⟩) (by assumption) ?_
    rotate_left
    · intro w hSw; (try dsimp only at hSw); go_simp; (try with_reducible rfl)
    try simp only [Act.put, List.setIfInBounds_toArray, List.set_cons_zero, List.set_cons_succ]
    refine wpAnyH_take (i := 10) (oi := ⟨some 46, _, _, _, _, some (8, true)⟩) (v := ?_) rfl (by kernel_rfl) (by kernel_rfl) (by kernel_rfl) (fun _ _ _ h => h) (Or.inl ⟨by rfl, ?_⟩) (by assumption) ?_
    rotate_left
    · intro w hSw; (try dsimp only at hSw); go_simp; (try with_reducible rfl)
    try simp only [Act.put, List.setIfInBounds_toArray, List.set_cons_zero, List.set_cons_succ]
    refine wpAnyH_take (i := 12) (oi := ⟨some 48, _, _, _, _, some (8, true)⟩) (v := ?_) rfl (by kernel_rfl) (by kernel_rfl) (by kernel_rfl) (fun _ _ _ h => h) (Or.inl ⟨by rfl, ?_⟩) (by assumption) ?_
    rotate_left
    · intro w hSw; (try dsimp only at hSw); go_simp; (try with_reducible rfl)
    try simp only [Act.put, List.setIfInBounds_toArray, List.set_cons_zero, List.set_cons_succ]
    refine wpAnyH_take (i := 13) (oi := ⟨some 49, _, _, _, _, some (8, true)⟩) (v := ?_) rfl (by kernel_rfl) (by kernel_rfl) (by kernel_rfl) (fun _ _ _ h => h) (Or.inl ⟨by rfl, ?_⟩) (by assumption) ?_
    rotate_left
    · intro w hSw; (try dsimp only at hSw); go_simp; (try with_reducible rfl)
    try simp only [Act.put, List.setIfInBounds_toArray, List.set_cons_zero, List.set_cons_succ]
    refine wpAnyH_ready (rs := [11]) (by kernel_rfl) (by simp) ?_
    refine AllReadyH.cons (o := ⟨some 47, _, _, _, _, some (8, true)⟩) rfl (fun K hK => ?_) AllReadyH.nil
    go_simp
    go_wp2_with (go_at_call 10; refine (has_raw rb g' cap' a0 a2 hs _ Rv1.out l64).mono ?_; rintro e v2 ⟨rfl, hb⟩)
    have Rv2 : Hid (RawR v2 rb g' cap' a0 hs) := Rv1.out.below hb
    have Hv2 : Hid (HolesAt v2 g hs) := holes_below Hv1.out gv1.out hb
    have gv2 : Hid (g < v2.heap.size) := Nat.lt_of_lt_of_le gv1.out hb.size
    have Bv2 : Hid (Below w.heap.size w v2) := below_then Bv1.out hb
    have lv2 : Hid (u4.heap.size < v2.heap.size) := Nat.lt_of_lt_of_le lv1.out hb.size
    obtain ⟨y0, y1, y2⟩ := hHeld
    refine hK.out _ _ ⟨(hb.cell (p := ⟨u4.heap.size, 0, none⟩) lv1.out).trans y0, (hb.cell (p := ⟨u4.heap.size, 1, none⟩) lv1.out).trans y1, (hb.cell (p := ⟨u4.heap.size, 2, none⟩) lv1.out).trans y2⟩ (fun hHeld => ?_)
    clear hK K hb y0 y1 y2 Rv1 Hv1 gv1 Bv1 lv1
    try simp only [Act.put, List.setIfInBounds_toArray, List.set_cons_zero, List.set_cons_succ]
    refine wpAnyH_ready (rs := [14]) (by kernel_rfl) (by simp) ?_
    refine AllReadyH.cons (o := ⟨some 50, _, _, _, _, some (8, true)⟩) rfl (fun K hK => ?_) AllReadyH.nil
    go_simp
    go_wp2_with (go_at_call 11; refine (RH.out a2 _ Hv2.out gv2.out).mono ?_; rintro e v3 ⟨rfl, hb⟩)
    have Rv3 : Hid (RawR v3 rb g' cap' a0 hs) := Rv2.out.below hb
    have Hv3 : Hid (HolesAt v3 g hs) := holes_below Hv2.out gv2.out hb
    have gv3 : Hid (g < v3.heap.size) := Nat.lt_of_lt_of_le gv2.out hb.size
    have Bv3 : Hid (Below w.heap.size w v3) := below_then Bv2.out hb
    have lv3 : Hid (u4.heap.size < v3.heap.size) := Nat.lt_of_lt_of_le lv2.out hb.size
    obtain ⟨y0, y1, y2⟩ := hHeld
    refine hK.out _ _ ⟨(hb.cell (p := ⟨u4.heap.size, 0, none⟩) lv2.out).trans y0, (hb.cell (p := ⟨u4.heap.size, 1, none⟩) lv2.out).trans y1, (hb.cell (p := ⟨u4.heap.size, 2, none⟩) lv2.out).trans y2⟩ (fun hHeld => ?_)
    clear hK K hb y0 y1 y2 Rv2 Hv2 gv2 Bv2 lv2
    try simp only [Act.put, List.setIfInBounds_toArray, List.set_cons_zero, List.set_cons_succ]
    refine wpAnyH_take (i := 15) (oi := ⟨some 51, _, _, _, _, some (8, true)⟩) (v := .bool true) rfl (by kernel_rfl) (by kernel_rfl) (by kernel_rfl) (fun _ _ _ h => h) (Or.inl ⟨by rfl, ?_⟩) (by assumption) ?_
    · intro w hSw; (try dsimp only at hSw); go_simp; (try simp)
    try simp only [Act.put, List.setIfInBounds_toArray, List.set_cons_zero, List.set_cons_succ]
    refine wpAnyH_take (i := 16) (oi := ⟨some 52, _, _, _, _, none⟩) (v := ?_) rfl (by kernel_rfl) (by kernel_rfl) (by kernel_rfl) (fun _ _ _ h => h) (Or.inl ⟨by rfl, ?_⟩) (by assumption) ?_
    rotate_left
    · intro w hSw; (try dsimp only at hSw); go_simp; (try with_reducible rfl)
    try simp only [Act.put, List.setIfInBounds_toArray, List.set_cons_zero, List.set_cons_succ]
    refine wpAnyH_take (i := 17) (oi := ⟨some 53, _, _, _, _, none⟩) (v := ?_) rfl (by kernel_rfl) (by kernel_rfl) (by kernel_rfl) (fun _ _ _ h => h) (Or.inl ⟨by rfl, ?_⟩) (by assumption) ?_
    rotate_left
    · intro w hSw; (try dsimp only at hSw); go_simp; (try with_reducible rfl)
    try simp only [Act.put, List.setIfInBounds_toArray, List.set_cons_zero, List.set_cons_succ]
    refine wpAnyH_take (i := 18) (oi := ⟨some 54, _, _, _, _, some (17, true)⟩) (v := ?_) rfl (by kernel_rfl) (by kernel_rfl) (by kernel_rfl) (fun _ _ _ h => h) (Or.inl ⟨by rfl, ?_⟩) (by assumption) ?_
    rotate_left
    · intro w hSw; (try dsimp only at hSw); go_simp; (try with_reducible rfl)
    try simp only [Act.put, List.setIfInBounds_toArray, List.set_cons_zero, List.set_cons_succ]
    refine wpAnyH_take (i := 19) (oi := ⟨some 55, _, _, _, _, some (17, true)⟩) (v := ?_) rfl (by kernel_rfl) (by kernel_rfl) (by kernel_rfl) (fun _ _ _ h => h) (Or.inl ⟨by rfl, ?_⟩) (by assumption) ?_
    rotate_left
    · intro w hSw; (try dsimp only at hSw); go_simp; (try with_reducible rfl)
    try simp only [Act.put, List.setIfInBounds_toArray, List.set_cons_zero, List.set_cons_succ]
    refine wpAnyH_take (i := 20) (oi := ⟨some 56, _, _, _, _, some (17, true)⟩) (v := ?_) rfl (by kernel_rfl) (by kernel_rfl) (by kernel_rfl) (fun _ _ _ h => h) (Or.inl ⟨by rfl, ?_⟩) (by assumption) ?_
    rotate_left
    · intro w hSw; (try dsimp only at hSw); go_simp; (try with_reducible rfl)
    try simp only [Act.put, List.setIfInBounds_toArray, List.set_cons_zero, List.set_cons_succ]
    refine wpAnyH_take (i := 22) (oi := ⟨some 58, _, _, _, _, some (17, true)⟩) (v := ?_) rfl (by kernel_rfl) (by kernel_rfl) (by kernel_rfl) (fun _ _ _ h => h) (Or.inl ⟨by rfl, ?_⟩) (by assumption) ?_
    rotate_left
    · intro w hSw; (try dsimp only at hSw); go_simp; (try with_reducible rfl)
    try simp only [Act.put, List.setIfInBounds_toArray, List.set_cons_zero, List.set_cons_succ]
    refine wpAnyH_take (i := 23) (oi := ⟨some 59, _, _, _, _, some (17, true)⟩) (v := ?_) rfl (by kernel_rfl) (by kernel_rfl) (by kernel_rfl) (fun _ _ _ h => h) (Or.inl ⟨by rfl, ?_⟩) (by assumption) ?_
    rotate_left
    · intro w hSw; (try dsimp only at hSw); go_simp; (try with_reducible rfl)
    try simp only [Act.put, List.setIfInBounds_toArray, List.set_cons_zero, List.set_cons_succ]
    refine wpAnyH_take (i := 24) (oi := ⟨some 60, _, _, _, _, some (17, true)⟩) (v := ?_) rfl (by kernel_rfl) (by kernel_rfl) (by kernel_rfl) (fun _ _ _ h => h) (Or.inl ⟨by rfl, ?_⟩) (by assumption) ?_
    rotate_left
    · intro w hSw; (try dsimp only at hSw); go_simp; (try with_reducible rfl)
    try simp only [Act.put, List.setIfInBounds_toArray, List.set_cons_zero, List.set_cons_succ]
    refine wpAnyH_ready (rs := [21]) (by kernel_rfl) (by simp) ?_
    refine AllReadyH.cons (o := ⟨some 57, _, _, _, _, some (17, true)⟩) rfl (fun K hK => ?_) AllReadyH.nil
    go_simp
    go_wp2_with (go_at_call 10; refine (has_raw rb g' cap' a0 _ hs _ Rv3.out l64).mono ?_; rintro e v4 ⟨rfl, hb⟩)
    have Rv4 : Hid (RawR v4 rb g' cap' a0 hs) := Rv3.out.below hb
    have Hv4 : Hid (HolesAt v4 g hs) := holes_below Hv3.out gv3.out hb
    have gv4 : Hid (g < v4.heap.size) := Nat.lt_of_lt_of_le gv3.out hb.size
    have Bv4 : Hid (Below w.heap.size w v4) := below_then Bv3.out hb
    have lv4 : Hid (u4.heap.size < v4.heap.size) := Nat.lt_of_lt_of_le lv3.out hb.size
    obtain ⟨y0, y1, y2⟩ := hHeld
    refine hK.out _ _ ⟨(hb.cell (p := ⟨u4.heap.size, 0, none⟩) lv3.out).trans y0, (hb.cell (p := ⟨u4.heap.size, 1, none⟩) lv3.out).trans y1, (hb.cell (p := ⟨u4.heap.size, 2, none⟩) lv3.out).trans y2⟩ (fun hHeld => ?_)
    clear hK K hb y0 y1 y2 Rv3 Hv3 gv3 Bv3 lv3
    try simp only [Act.put, List.setIfInBounds_toArray, List.set_cons_zero, List.set_cons_succ]
    refine wpAnyH_ready (rs := [25]) (by kernel_rfl) (by simp) ?_
    refine AllReadyH.cons (o := ⟨some 61, _, _, _, _, some (17, true)⟩) rfl (fun K hK => ?_) AllReadyH.nil
    go_simp
    go_wp2_with (go_at_call 11; refine (RH.out _ _ Hv4.out gv4.out).mono ?_; rintro e v5 ⟨rfl, hb⟩)
    have Rv5 : Hid (RawR v5 rb g' cap' a0 hs) := Rv4.out.below hb
    have Hv5 : Hid (HolesAt v5 g hs) := holes_below Hv4.out gv4.out hb
    have gv5 : Hid (g < v5.heap.size) := Nat.lt_of_lt_of_le gv4.out hb.size
    have Bv5 : Hid (Below w.heap.size w v5) := below_then Bv4.out hb
    have lv5 : Hid (u4.heap.size < v5.heap.size) := Nat.lt_of_lt_of_le lv4.out hb.size
    obtain ⟨y0, y1, y2⟩ := hHeld
    refine hK.out _ _ ⟨(hb.cell (p := ⟨u4.heap.size, 0, none⟩) lv4.out).trans y0, (hb.cell (p := ⟨u4.heap.size, 1, none⟩) lv4.out).trans y1, (hb.cell (p := ⟨u4.heap.size, 2, none⟩) lv4.out).trans y2⟩ (fun hHeld => ?_)
    clear hK K hb y0 y1 y2 Rv4 Hv4 gv4 Bv4 lv4
    try simp only [Act.put, List.setIfInBounds_toArray, List.set_cons_zero, List.set_cons_succ]
    refine wpAnyH_take (i := 26) (oi := ⟨some 62, _, _, _, _, some (17, true)⟩) (v := .bool true) rfl (by kernel_rfl) (by kernel_rfl) (by kernel_rfl) (fun _ _ _ h => h) (Or.inl ⟨by rfl, ?_⟩) (by assumption) ?_
    · intro w hSw; (try dsimp only at hSw); go_simp; (try simp)
    try simp only [Act.put, List.setIfInBounds_toArray, List.set_cons_zero, List.set_cons_succ]
    refine wpAnyH_take (i := 27) (oi := ⟨some 63, _, _, _, _, none⟩) (v := ?_) rfl (by kernel_rfl) (by kernel_rfl) (by kernel_rfl) (fun _ _ _ h => h) (Or.inl ⟨by rfl, ?_⟩) (by assumption) ?_
    rotate_left
    · intro w hSw; (try dsimp only at hSw); go_simp; (try with_reducible rfl)
    try simp only [Act.put, List.setIfInBounds_toArray, List.set_cons_zero, List.set_cons_succ]
    refine wpAnyH_take (i := 28) (oi := ⟨some 64, _, _, _, _, none⟩) (v := ?_) rfl (by kernel_rfl) (by kernel_rfl) (by kernel_rfl) (fun _ _ _ h => h) (Or.inl ⟨by rfl, ?_⟩) (by assumption) ?_
    rotate_left
    · intro w hSw; (try dsimp only at hSw); go_simp; (try with_reducible rfl)
    try simp only [Act.put, List.setIfInBounds_toArray, List.set_cons_zero, List.set_cons_succ]
    refine wpAnyH_take (i := 29) (oi := ⟨some 65, _, _, _, _, some (28, true)⟩) (v := ?_) rfl (by kernel_rfl) (by kernel_rfl) (by kernel_rfl) (fun _ _ _ h => h) (Or.inl ⟨by rfl, ?_⟩) (by assumption) ?_
    rotate_left
    · intro w hSw; (try dsimp only at hSw); go_simp; (try with_reducible rfl)
    try simp only [Act.put, List.setIfInBounds_toArray, List.set_cons_zero, List.set_cons_succ]
    refine wpAnyH_ready (rs := [30]) (by kernel_rfl) (by simp) ?_
    refine AllReadyH.cons (o := ⟨some 66, _, _, _, _, some (28, true)⟩) rfl (fun K hK => ?_) AllReadyH.nil
    go_simp
    go_wp2_with (go_at_call 10; refine (has_raw rb g' cap' a0 (-1) hs _ Rv5.out l64).mono ?_; rintro e v6 ⟨rfl, hb⟩)
    have Rv6 : Hid (RawR v6 rb g' cap' a0 hs) := Rv5.out.below hb
    have Hv6 : Hid (HolesAt v6 g hs) := holes_below Hv5.out gv5.out hb
    have gv6 : Hid (g < v6.heap.size) := Nat.lt_of_lt_of_le gv5.out hb.size
    have Bv6 : Hid (Below w.heap.size w v6) := below_then Bv5.out hb
    have lv6 : Hid (u4.heap.size < v6.heap.size) := Nat.lt_of_lt_of_le lv5.out hb.size
    obtain ⟨y0, y1, y2⟩ := hHeld
    refine hK.out _ _ ⟨(hb.cell (p := ⟨u4.heap.size, 0, none⟩) lv5.out).trans y0, (hb.cell (p := ⟨u4.heap.size, 1, none⟩) lv5.out).trans y1, (hb.cell (p := ⟨u4.heap.size, 2, none⟩) lv5.out).trans y2⟩ (fun hHeld => ?_)
    clear hK K hb y0 y1 y2 Rv5 Hv5 gv5 Bv5 lv5
    try simp only [Act.put, List.setIfInBounds_toArray, List.set_cons_zero, List.set_cons_succ]
    refine wpAnyH_take (i := 31) (oi := ⟨some 67, _, _, _, _, some (28, true)⟩) (v := .bool true) rfl (by kernel_rfl) (by kernel_rfl) (by kernel_rfl) (fun _ _ _ h => h) (Or.inl ⟨by rfl, ?_⟩) (by assumption) ?_
    · intro w hSw; (try dsimp only at hSw); go_simp; (try simp); (try (rw [HM.out]))
    try simp only [Act.put, List.setIfInBounds_toArray, List.set_cons_zero, List.set_cons_succ]
    refine wpAnyH_take (i := 32) (oi := ⟨some 68, _, _, _, _, none⟩) (v := ?_) rfl (by kernel_rfl) (by kernel_rfl) (by kernel_rfl) (fun _ _ _ h => h) (Or.inl ⟨by rfl, ?_⟩) (by assumption) ?_
    rotate_left
    · intro w hSw; (try dsimp only at hSw); go_simp; (try with_reducible rfl)
    try simp only [Act.put, List.setIfInBounds_toArray, List.set_cons_zero, List.set_cons_succ]
    refine wpAnyH_take (i := 33) (oi := ⟨some 69, _, _, _, _, none⟩) (v := ?_) rfl (by kernel_rfl) (by kernel_rfl) (by kernel_rfl) (fun _ _ _ h => h) (Or.inl ⟨by rfl, ?_⟩) (by assumption) ?_
    rotate_left
    · intro w hSw; (try dsimp only at hSw); go_simp; (try with_reducible rfl)
    try simp only [Act.put, List.setIfInBounds_toArray, List.set_cons_zero, List.set_cons_succ]
    refine wpAnyH_take (i := 34) (oi := ⟨some 70, _, _, _, _, some (33, true)⟩) (v := ?_) rfl (by kernel_rfl) (by kernel_rfl) (by kernel_rfl) (fun _ _ _ h => h) (Or.inl ⟨by rfl, ?_⟩) (by assumption) ?_
    rotate_left
    · intro w hSw; (try dsimp only at hSw); go_simp; (try with_reducible rfl)
    try simp only [Act.put, List.setIfInBounds_toArray, List.set_cons_zero, List.set_cons_succ]
    refine wpAnyH_take (i := 35) (oi := ⟨some 71, _, _, _, _, some (33, true)⟩) (v := ?_) rfl (by kernel_rfl) (by kernel_rfl) (by kernel_rfl) (fun _ _ _ h => h) (Or.inl ⟨by rfl, ?_⟩) (by assumption) ?_
    rotate_left
    · intro w hSw; (try dsimp only at hSw); go_simp; (try with_reducible rfl)
    try simp only [Act.put, List.setIfInBounds_toArray, List.set_cons_zero, List.set_cons_succ]
    refine wpAnyH_ready (rs := [36]) (by kernel_rfl) (by simp) ?_
    refine AllReadyH.cons (o := ⟨some 72, _, _, _, _, some (33, true)⟩) rfl (fun K hK => ?_) AllReadyH.nil
    go_simp
    go_wp2_with (go_at_call 10; refine (has_raw rb g' cap' a0 a0 hs _ Rv6.out l64).mono ?_; rintro e v7 ⟨rfl, hb⟩)
    have Rv7 : Hid (RawR v7 rb g' cap' a0 hs) := Rv6.out.below hb
    have Hv7 : Hid (HolesAt v7 g hs) := holes_below Hv6.out gv6.out hb
    have gv7 : Hid (g < v7.heap.size) := Nat.lt_of_lt_of_le gv6.out hb.size
    have Bv7 : Hid (Below w.heap.size w v7) := below_then Bv6.out hb
    have lv7 : Hid (u4.heap.size < v7.heap.size) := Nat.lt_of_lt_of_le lv6.out hb.size
    obtain ⟨y0, y1, y2⟩ := hHeld
    refine hK.out _ _ ⟨(hb.cell (p := ⟨u4.heap.size, 0, none⟩) lv6.out).trans y0, (hb.cell (p := ⟨u4.heap.size, 1, none⟩) lv6.out).trans y1, (hb.cell (p := ⟨u4.heap.size, 2, none⟩) lv6.out).trans y2⟩ (fun hHeld => ?_)
    clear hK K hb y0 y1 y2 Rv6 Hv6 gv6 Bv6 lv6
    try simp only [Act.put, List.setIfInBounds_toArray, List.set_cons_zero, List.set_cons_succ]
    refine wpAnyH_take (i := 37) (oi := ⟨some 73, _, _, _, _, some (33, true)⟩) (v := .bool true) rfl (by kernel_rfl) (by kernel_rfl) (by kernel_rfl) (fun _ _ _ h => h) (Or.inl ⟨by rfl, ?_⟩) (by assumption) ?_
    · intro w hSw; (try dsimp only at hSw); go_simp; (try simp); (try (rw [HT.out]))
    try simp only [Act.put, List.setIfInBounds_toArray, List.set_cons_zero, List.set_cons_succ]
    refine wpAnyH_take (i := 38) (oi := ⟨some 74, _, _, _, _, none⟩) (v := ?_) rfl (by kernel_rfl) (by kernel_rfl) (by kernel_rfl) (fun _ _ _ h => h) (Or.inl ⟨by rfl, ?_⟩) (by assumption) ?_
    rotate_left
    · intro w hSw; (try dsimp only at hSw); go_simp; (try with_reducible rfl)
    try simp only [Act.put, List.setIfInBounds_toArray, List.set_cons_zero, List.set_cons_succ]
    refine wpAnyH_take (i := 39) (oi := ⟨some 6, _, _, _, _, none⟩) (v := ?_) rfl (by kernel_rfl) (by kernel_rfl) (by kernel_rfl) (fun _ _ _ h => h) (Or.inl ⟨by rfl, ?_⟩) (by assumption) ?_
    rotate_left
    · intro w hSw; (try dsimp only at hSw); go_simp; (try with_reducible rfl)
    try simp only [Act.put, List.setIfInBounds_toArray, List.set_cons_zero, List.set_cons_succ]
    clear hHeld
    refine wpAnyH_done (by kernel_rfl) ?_ _
    refine NoPanic.normal ?_
    go_wp2_with fail
    go_ret
    exact ⟨rfl, Bv7.out⟩
  · have NW : Hid (∀ W : World, HolesAt W g hs → g < W.heap.size → Calls Try.prog 6 #[.int .i64 a0, .slice (some ⟨g, 0, none⟩) hs.length cap] W fun e w' => e = .returned (.tuple #[.pointer none, .int .i64 (chkR a0 hs)]) ∧ Below W.heap.size W w') := fun W h1 h2 => new_refused a0 g cap hs W h1 h2 hz
    generalize chkR a0 hs = z at NW CK hz
    have zb : (z == 0) = false := by simp [hz]
    clear hz
    go_wp2_with fail
    refine (NW.out _ H1.out g1.out).mono ?_
    rintro e u2 ⟨rfl, hb2⟩
    have H2 : Hid (HolesAt u2 g hs) := holes_below H1.out g1.out hb2
    have g2 : Hid (g < u2.heap.size) := Nat.lt_of_lt_of_le g1.out hb2.size
    have B2 : Hid (Below w.heap.size w u2) := below_then B1.out hb2
    clear hb2
    go_wp2_with fail
    refine (CK.out _ H2.out g2.out).mono ?_
    rintro e u3 ⟨rfl, hb3⟩
    have B3 : Hid (Below w.heap.size w u3) := below_then B2.out hb3
    clear hb3
    go_wp2_with fail
    refine (AWH.out _).mono ?_
    rintro e u4 ⟨rfl, hb4⟩
    have B4 : Hid (Below w.heap.size w u4) := below_then B3.out hb4
    clear hb4
    go_wp2_with fail
    go_ret
    exact ⟨rfl, B4.out⟩

theorem own : ownKnob Try.prog.godebug = none := by kernel_rfl
theorem laidOut : laidOutB Try.prog = true := by kernel_rfl
set_option maxRecDepth 100000 in
theorem lifted (os : Os) (started : os.Started) (H : Type) (enc : TypeId × Value → H) :
    ReturnsInHanded {} Try.checked os 3 .any (Rows.ramNewsSpec.pre6 enc Try.prog Try.f3 Rows.ramNewsRow.domain false) (Rows.ramNewsSpec.post enc Try.prog Try.f3 false true false false) := by
  refine returnsInHanded_of_change (C := Try.checked) own started (by kernel_rfl) Try.func3
    (ChangeSpec.witness6 (enc := enc) (C := Try.checked) false ⟨#[], #[.int .i64 0, .slice none 0 0, .int .i64 0], []⟩ 8 (by kernel_rfl) (by kernel_rfl) (by kernel_rfl) (by kernel_rfl)) ?_
  intro W base args ds gs before hval0 hW hcnd _
  have hval : ∀ (j : Nat) t v, Try.f3.params[j]? = some t → args[j]? = some v → Value.okWide Try.prog W .any base t v := hval0
  have hW' := hW
  obtain ⟨p, q, hA0, hV, hbef, hfz, hnd⟩ := hW
  have hA : DataW.TrodAll enc Try.prog W 0 (fun _ => true) true Try.f3.params.toList args.toList ds p := hA0
  have hAk := hA
  have hlt : ∀ x ∈ p, x.block < W.heap.size := fun x hx => hW'.lt x (by rw [hbef]; exact List.mem_append_left _ hx)
  rw [Try.params3] at hA hval
  obtain ⟨v0, vs0, d0, ds0, p0, q0, hargs, rfl, hp0, h0, r0⟩ := trodAll_cons hA
  obtain ⟨v1, vs1, d1, ds1, p1, q1, rfl, rfl, hp1, h1, r1⟩ := trodAll_cons r0
  obtain ⟨v2, vs2, d2, ds2, p2, q2, rfl, rfl, hp2, h2, r2⟩ := trodAll_cons r1
  obtain ⟨rfl, rfl, hpz⟩ := trodAll_nil r2
  obtain rfl : args = #[v0, v1, v2] := by cases args; simp_all
  obtain ⟨rfl, rfl⟩ := trodVars_none hV
  obtain ⟨a0, rfl, _, _, w0⟩ := open_int Try.underlying3 (hval 0 3 v0 rfl rfl) h0
  obtain ⟨p1, n1, c1, F1, rfl, m1, l1, H1⟩ := open_rgs (hval 1 22 v1 rfl rfl) h1
  obtain ⟨a2, rfl, _, _, w2⟩ := open_int Try.underlying3 (hval 2 3 v2 rfl rfl) h2
  clear hA0 hval0
  refine (walk a0 w0 p1 n1 c1 F1 m1 l1 a2 w2 W H1).mono fun e W' ⟨he, hg⟩ => ?_
  subst he
  exact ⟨_, rfl, ⟨_, _, _, [], p, [], hW', (trodAll_cons_mk (shut_bool Try.underlying4 _) trodAll_mk0), args_stay laidOut hg (by kernel_rfl) hAk hlt, rfl, hg.frame _, fun h => by cases h⟩⟩

theorem over : Rows.ramNewsRow.holds Try.pinned (OpenSpec.ofChange Rows.ramNewsSpec) :=
  OpenClaim.holds_of_wide 3 Try.f3 rfl rfl rfl rfl rfl rfl rfl ⟨rfl, rfl, rfl, rfl, rfl⟩ rfl rfl rfl rfl rfl (by kernel_rfl) Try.func3 (by kernel_rfl)
    (of_decide_eq_true (by kernel_rfl)) (by unfold Func.isWrapper; first | (rw [if_pos (by decide +kernel)]; kernel_rfl) | (rw [if_neg (by decide +kernel)]; exact ⟨rfl, rfl⟩))
    (fun os started H enc _ => lifted os started H enc)

theorem proved : Rows.RamNewsSaid :=
  over
#print axioms proved
end Go.Proofs.Ytglgdplhgioafaa.ramNews
