/- Words of a call: the call of any words. -/
import Derived.Test.YtccbacjiiffheaaCA
import Derived.Test.YtccbacjiiffheaaCB
import Derived.Test.YtccbacjiiffheaaCC
import Derived.Test.YtccbacjiiffheaaCD
import Derived.Test.YtccbacjiiffheaaCE
import Derived.Test.YtccbacjiiffheaaCF
namespace Go.Proofs.Ytccbacjiiffheaa
open Go.ChangeShapes Go.WideShapes Go.ChangeAt Go.RowKit Go.Maps
set_option linter.unusedSimpArgs false
set_option linter.unusedVariables false

/-- the call that the words begin with, and how many of them it has -/
def callV (W : Wd) : Option (Cl × Nat) :=
  if W.at 0 = 1 then (if pagesOk (W.at 1) (W.at 2) ∧ W.at 3 < 4 then some (⟨1, (W.at 1), (W.at 1 + W.at 2), (permW (W.at 3)), true, (permX (W.at 3)), 0, 0, 0, 0, 0, 0, 0⟩, 4) else none) else
  if W.at 0 = 2 then (if pagesOk (W.at 1) (W.at 2) then some (⟨2, (W.at 1), (W.at 1 + W.at 2), false, false, false, 0, 0, 0, 0, 0, 0, 0⟩, 3) else none) else
  if W.at 0 = 3 then (if pagesOk (W.at 1) (W.at 2) ∧ W.at 3 < 4 then some (⟨3, (W.at 1), (W.at 1 + W.at 2), (permW (W.at 3)), true, (permX (W.at 3)), 0, 0, 0, 0, 0, 0, 0⟩, 4) else none) else
  if W.at 0 = 4 then (if spotOk (W.at 1) (W.at 2) then some (⟨4, 0, 0, false, false, false, (W.at 1), (W.at 2), 0, 0, 0, 0, 0⟩, 3) else none) else
  if W.at 0 = 6 then (if W.at 1 < 34359738368 ∧ W.at 2 < 16 ∧ W.at 3 < 2 then some (⟨6, (W.at 1), (W.at 1 + 1), (W.at 3 == 1), false, false, 0, 0, 0, (W.at 2), 0, 0, 0⟩, 4) else none) else
  if W.at 0 = 7 then (if W.at 1 < 256 ∧ W.at 2 < 34359738368 then some (⟨7, (W.at 2), (W.at 2 + 1), false, false, false, 0, 0, 0, (W.at 1), 0, 0, 0⟩, 3) else none) else
  if W.at 0 = 8 then (if W.at 1 < 256 then some (⟨8, 0, 0, false, false, false, 0, 0, 0, (W.at 1), 0, 0, 0⟩, 2) else none) else
  if W.at 0 = 9 then (if W.at 1 < 256 then some (⟨9, 0, 0, false, false, false, 0, 0, 0, (W.at 1), 0, 0, 0⟩, 2) else none) else
  if W.at 0 = 10 then (if W.at 1 < 140737488355328 then some (⟨10, 0, 0, false, false, false, (W.at 1), 0, 0, 0, 0, 0, 0⟩, 2) else none) else
  if W.at 0 = 11 then (some (⟨11, 0, 0, false, false, false, 0, 0, 0, 0, 0, 0, 0⟩, 1)) else
  if W.at 0 = 12 then (if W.at 1 < 1048577 then some (⟨12, 0, 0, false, false, false, 0, 0, 0, (W.at 1), 0, 0, 0⟩, 2) else none) else
  if W.at 0 = 13 then (some (⟨13, 0, 0, false, false, false, 0, 0, 0, 0, 0, 0, 0⟩, 1)) else
  if W.at 0 = 14 then (some (⟨14, 0, 0, false, false, false, 0, 0, 0, 0, 0, 0, 0⟩, 1)) else
  if W.at 0 = 15 then (if W.at 1 < 8 ∧ W.at 2 < 4 ∧ W.at 3 < 4 ∧ W.at 4 < 4 then some (⟨15, 0, 0, false, false, false, 0, 0, 0, (W.at 1 + 1), (W.at 2), (W.at 3), (W.at 4)⟩, 5) else none) else
  if W.at 0 = 16 then (if W.at 1 < 4 then some (⟨16, 0, 0, false, false, false, 0, 0, (W.at 2), (W.at 1), 0, 0, 0⟩, 3) else none) else
  if W.at 0 = 5 then (if spotOk (W.at 1) (W.at 2) then (if (W.at 2 = 1 ∧ W.at 3 < 256) ∨ (W.at 2 = 2 ∧ W.at 3 < 65536) ∨ (W.at 2 = 4 ∧ W.at 3 < 4294967296) ∨ (W.at 2 = 8 ∧ W.at 3 < 18446744073709551616) then some (⟨5, 0, 0, false, false, false, W.at 1, W.at 2, W.at 3, 0, 0, 0, 0⟩, 4) else none) else none) else none
set_option maxHeartbeats 4000000 in
theorem callD (b : Nat) (W : Wd) (hw : W.wf) (h0 : W.at 0 = 0) (w : World) (h : IsR w b W 0) : Calls Try.prog 22 #[.pointer (some ⟨b, 0, none⟩)] w fun e w' => e = .panicked [refv] ∧ Kb b w w' := by
  have N0 : Hid (∀ w : World, IsR w b W (0) → Calls Try.prog 30 #[.pointer (some ⟨b, 0, none⟩), .int .u64 17] w fun e w' => e = .returned (.int .i64 (W.at (0))) ∧ IsR w' b W (0 + 1) ∧ Kb b w w') := fun w h => number_yes b W (0) (by omega) hw 17 (by omega) (by omega) w h
  rw [h0] at N0
  have IN : Hid (∀ w : World, Calls Try.prog 38 #[.bool false] w fun e w' => e = .panicked [refv] ∧ w' = w) := insist_no
  have H0 : Hid (IsR w b W 0) := h
  have lt0 := blk_lt h
  clear h hw h0
  have A0 : Hid (IsR (w.alloc (.cells [.int .i64 0, .int .i64 0, .int .i64 0, .bool false, .bool false, .bool false, .int .u64 0, .int .i64 0, .int .u64 0, .int .i64 0, .int .i64 0, .int .i64 0, .int .i64 0].toArray 30)) b W 0) := H0.out.below (Go.Joins.below_alloc1 _ _)
  have K0 : Hid (Kb b w (w.alloc (.cells [.int .i64 0, .int .i64 0, .int .i64 0, .bool false, .bool false, .bool false, .int .u64 0, .int .i64 0, .int .u64 0, .int .i64 0, .int .i64 0, .int .i64 0, .int .i64 0].toArray 30))) := kb_alloc b w _
  go_enter Try.func22, Try.ntmps22
  go_wp2_with fail
  refine (N0.out _ A0.out).mono ?_
  rintro e u0 ⟨rfl, h1, k1⟩
  have K1 : Hid (Kb b w u0) := K0.out.trans k1
  clear h1 k1 A0 K0
  go_wp2_with fail
  refine (IN.out _).mono ?_
  rintro e u8 ⟨rfl, hu⟩
  rw [hu]
  exact ⟨rfl, rfl, K1.out.trans (kb_alloc b u0 _)⟩
set_option maxHeartbeats 4000000 in
theorem callX (b : Nat) (W : Wd) (h0 : ¬ W.at 0 < 17) (w : World) (h : IsR w b W 0) : Calls Try.prog 22 #[.pointer (some ⟨b, 0, none⟩)] w fun e w' => e = .panicked [refv] ∧ Kb b w w' := by
  have N0 : Hid (∀ w : World, IsR w b W (0) → Calls Try.prog 30 #[.pointer (some ⟨b, 0, none⟩), .int .u64 17] w fun e w' => e = .panicked [refv] ∧ Kb b w w') := fun w h => number_no b W (0) (by omega) 17 h0 w h
  have H0 : Hid (IsR w b W 0) := h
  have lt0 := blk_lt h
  clear h h0
  have A0 : Hid (IsR (w.alloc (.cells [.int .i64 0, .int .i64 0, .int .i64 0, .bool false, .bool false, .bool false, .int .u64 0, .int .i64 0, .int .u64 0, .int .i64 0, .int .i64 0, .int .i64 0, .int .i64 0].toArray 30)) b W 0) := H0.out.below (Go.Joins.below_alloc1 _ _)
  have K0 : Hid (Kb b w (w.alloc (.cells [.int .i64 0, .int .i64 0, .int .i64 0, .bool false, .bool false, .bool false, .int .u64 0, .int .i64 0, .int .u64 0, .int .i64 0, .int .i64 0, .int .i64 0, .int .i64 0].toArray 30))) := kb_alloc b w _
  go_enter Try.func22, Try.ntmps22
  go_wp2_with fail
  refine (N0.out _ A0.out).mono ?_
  rintro e u0 ⟨rfl, k1⟩
  exact ⟨rfl, rfl, K0.out.trans k1⟩
theorem call_some (b : Nat) (W : Wd) (hw : W.wf) (c : Cl) (n : Nat) (hc : callV W = some (c, n)) (w : World) (h : IsR w b W 0) : Calls Try.prog 22 #[.pointer (some ⟨b, 0, none⟩)] w fun e w' => e = .returned c.val ∧ IsR w' b W n ∧ Kb b w w' := by
  unfold callV at hc
  by_cases z1 : W.at 0 = 1
  · rw [if_pos z1] at hc
    by_cases hq : pagesOk (W.at 1) (W.at 2) ∧ W.at 3 < 4
    · rw [if_pos hq] at hc
      obtain ⟨rfl, rfl⟩ := Prod.mk.inj (Option.some.inj hc)
      exact call1 b W hw z1 hq.1 hq.2 w h
    · rw [if_neg hq] at hc; cases hc
  rw [if_neg z1] at hc
  by_cases z2 : W.at 0 = 2
  · rw [if_pos z2] at hc
    by_cases hq : pagesOk (W.at 1) (W.at 2)
    · rw [if_pos hq] at hc
      obtain ⟨rfl, rfl⟩ := Prod.mk.inj (Option.some.inj hc)
      exact call2 b W hw z2 hq w h
    · rw [if_neg hq] at hc; cases hc
  rw [if_neg z2] at hc
  by_cases z3 : W.at 0 = 3
  · rw [if_pos z3] at hc
    by_cases hq : pagesOk (W.at 1) (W.at 2) ∧ W.at 3 < 4
    · rw [if_pos hq] at hc
      obtain ⟨rfl, rfl⟩ := Prod.mk.inj (Option.some.inj hc)
      exact call3 b W hw z3 hq.1 hq.2 w h
    · rw [if_neg hq] at hc; cases hc
  rw [if_neg z3] at hc
  by_cases z4 : W.at 0 = 4
  · rw [if_pos z4] at hc
    by_cases hq : spotOk (W.at 1) (W.at 2)
    · rw [if_pos hq] at hc
      obtain ⟨rfl, rfl⟩ := Prod.mk.inj (Option.some.inj hc)
      exact call4 b W hw z4 hq w h
    · rw [if_neg hq] at hc; cases hc
  rw [if_neg z4] at hc
  by_cases z6 : W.at 0 = 6
  · rw [if_pos z6] at hc
    by_cases hq : W.at 1 < 34359738368 ∧ W.at 2 < 16 ∧ W.at 3 < 2
    · rw [if_pos hq] at hc
      obtain ⟨rfl, rfl⟩ := Prod.mk.inj (Option.some.inj hc)
      exact call6 b W hw z6 hq.1 hq.2.1 hq.2.2 w h
    · rw [if_neg hq] at hc; cases hc
  rw [if_neg z6] at hc
  by_cases z7 : W.at 0 = 7
  · rw [if_pos z7] at hc
    by_cases hq : W.at 1 < 256 ∧ W.at 2 < 34359738368
    · rw [if_pos hq] at hc
      obtain ⟨rfl, rfl⟩ := Prod.mk.inj (Option.some.inj hc)
      exact call7 b W hw z7 hq.1 hq.2 w h
    · rw [if_neg hq] at hc; cases hc
  rw [if_neg z7] at hc
  by_cases z8 : W.at 0 = 8
  · rw [if_pos z8] at hc
    by_cases hq : W.at 1 < 256
    · rw [if_pos hq] at hc
      obtain ⟨rfl, rfl⟩ := Prod.mk.inj (Option.some.inj hc)
      exact call8 b W hw z8 hq w h
    · rw [if_neg hq] at hc; cases hc
  rw [if_neg z8] at hc
  by_cases z9 : W.at 0 = 9
  · rw [if_pos z9] at hc
    by_cases hq : W.at 1 < 256
    · rw [if_pos hq] at hc
      obtain ⟨rfl, rfl⟩ := Prod.mk.inj (Option.some.inj hc)
      exact call9 b W hw z9 hq w h
    · rw [if_neg hq] at hc; cases hc
  rw [if_neg z9] at hc
  by_cases z10 : W.at 0 = 10
  · rw [if_pos z10] at hc
    by_cases hq : W.at 1 < 140737488355328
    · rw [if_pos hq] at hc
      obtain ⟨rfl, rfl⟩ := Prod.mk.inj (Option.some.inj hc)
      exact call10 b W hw z10 hq w h
    · rw [if_neg hq] at hc; cases hc
  rw [if_neg z10] at hc
  by_cases z11 : W.at 0 = 11
  · rw [if_pos z11] at hc
    obtain ⟨rfl, rfl⟩ := Prod.mk.inj (Option.some.inj hc)
    exact call11 b W hw z11 w h
  rw [if_neg z11] at hc
  by_cases z12 : W.at 0 = 12
  · rw [if_pos z12] at hc
    by_cases hq : W.at 1 < 1048577
    · rw [if_pos hq] at hc
      obtain ⟨rfl, rfl⟩ := Prod.mk.inj (Option.some.inj hc)
      exact call12 b W hw z12 hq w h
    · rw [if_neg hq] at hc; cases hc
  rw [if_neg z12] at hc
  by_cases z13 : W.at 0 = 13
  · rw [if_pos z13] at hc
    obtain ⟨rfl, rfl⟩ := Prod.mk.inj (Option.some.inj hc)
    exact call13 b W hw z13 w h
  rw [if_neg z13] at hc
  by_cases z14 : W.at 0 = 14
  · rw [if_pos z14] at hc
    obtain ⟨rfl, rfl⟩ := Prod.mk.inj (Option.some.inj hc)
    exact call14 b W hw z14 w h
  rw [if_neg z14] at hc
  by_cases z15 : W.at 0 = 15
  · rw [if_pos z15] at hc
    by_cases hq : W.at 1 < 8 ∧ W.at 2 < 4 ∧ W.at 3 < 4 ∧ W.at 4 < 4
    · rw [if_pos hq] at hc
      obtain ⟨rfl, rfl⟩ := Prod.mk.inj (Option.some.inj hc)
      exact call15 b W hw z15 hq.1 hq.2.1 hq.2.2.1 hq.2.2.2 w h
    · rw [if_neg hq] at hc; cases hc
  rw [if_neg z15] at hc
  by_cases z16 : W.at 0 = 16
  · rw [if_pos z16] at hc
    by_cases hq : W.at 1 < 4
    · rw [if_pos hq] at hc
      obtain ⟨rfl, rfl⟩ := Prod.mk.inj (Option.some.inj hc)
      exact call16 b W hw z16 hq w h
    · rw [if_neg hq] at hc; cases hc
  rw [if_neg z16] at hc
  by_cases z5 : W.at 0 = 5
  · rw [if_pos z5] at hc
    by_cases hq : spotOk (W.at 1) (W.at 2)
    · rw [if_pos hq] at hc
      by_cases hr : (W.at 2 = 1 ∧ W.at 3 < 256) ∨ (W.at 2 = 2 ∧ W.at 3 < 65536) ∨ (W.at 2 = 4 ∧ W.at 3 < 4294967296) ∨ (W.at 2 = 8 ∧ W.at 3 < 18446744073709551616)
      · rw [if_pos hr] at hc
        obtain ⟨rfl, rfl⟩ := Prod.mk.inj (Option.some.inj hc)
        rcases hr with ⟨r1, r2⟩ | ⟨r1, r2⟩ | ⟨r1, r2⟩ | ⟨r1, r2⟩
        · have := call5_1 b W hw z5 r1 hq r2 w h
          rw [← r1] at this; exact this
        · have := call5_2 b W hw z5 r1 hq r2 w h
          rw [← r1] at this; exact this
        · have := call5_4 b W hw z5 r1 hq r2 w h
          rw [← r1] at this; exact this
        · have := call5_8 b W hw z5 r1 hq r2 w h
          rw [← r1] at this; exact this
      · rw [if_neg hr] at hc; cases hc
    · rw [if_neg hq] at hc; cases hc
  rw [if_neg z5] at hc
  cases hc
theorem call_none (b : Nat) (W : Wd) (hw : W.wf) (hc : callV W = none) (w : World) (h : IsR w b W 0) : Calls Try.prog 22 #[.pointer (some ⟨b, 0, none⟩)] w fun e w' => e = .panicked [refv] ∧ Kb b w w' := by
  unfold callV at hc
  by_cases z1 : W.at 0 = 1
  · rw [if_pos z1] at hc
    by_cases hq : pagesOk (W.at 1) (W.at 2) ∧ W.at 3 < 4
    · rw [if_pos hq] at hc; cases hc
    clear hc
    by_cases q1 : pagesOk (W.at 1) (W.at 2)
    rotate_left
    · exact call1no1 b W hw z1 q1 w h
    exact call1no2 b W hw z1 q1 (fun z => hq ⟨q1, z⟩) w h
  rw [if_neg z1] at hc
  by_cases z2 : W.at 0 = 2
  · rw [if_pos z2] at hc
    by_cases hq : pagesOk (W.at 1) (W.at 2)
    · rw [if_pos hq] at hc; cases hc
    clear hc
    exact call2no1 b W hw z2 hq w h
  rw [if_neg z2] at hc
  by_cases z3 : W.at 0 = 3
  · rw [if_pos z3] at hc
    by_cases hq : pagesOk (W.at 1) (W.at 2) ∧ W.at 3 < 4
    · rw [if_pos hq] at hc; cases hc
    clear hc
    by_cases q1 : pagesOk (W.at 1) (W.at 2)
    rotate_left
    · exact call3no1 b W hw z3 q1 w h
    exact call3no2 b W hw z3 q1 (fun z => hq ⟨q1, z⟩) w h
  rw [if_neg z3] at hc
  by_cases z4 : W.at 0 = 4
  · rw [if_pos z4] at hc
    by_cases hq : spotOk (W.at 1) (W.at 2)
    · rw [if_pos hq] at hc; cases hc
    clear hc
    exact call4no1 b W hw z4 hq w h
  rw [if_neg z4] at hc
  by_cases z6 : W.at 0 = 6
  · rw [if_pos z6] at hc
    by_cases hq : W.at 1 < 34359738368 ∧ W.at 2 < 16 ∧ W.at 3 < 2
    · rw [if_pos hq] at hc; cases hc
    clear hc
    by_cases q1 : W.at 1 < 34359738368
    rotate_left
    · exact call6no1 b W hw z6 q1 w h
    by_cases q2 : W.at 2 < 16
    rotate_left
    · exact call6no2 b W hw z6 q1 q2 w h
    exact call6no3 b W hw z6 q1 q2 (fun z => hq ⟨q1, q2, z⟩) w h
  rw [if_neg z6] at hc
  by_cases z7 : W.at 0 = 7
  · rw [if_pos z7] at hc
    by_cases hq : W.at 1 < 256 ∧ W.at 2 < 34359738368
    · rw [if_pos hq] at hc; cases hc
    clear hc
    by_cases q1 : W.at 1 < 256
    rotate_left
    · exact call7no1 b W hw z7 q1 w h
    exact call7no2 b W hw z7 q1 (fun z => hq ⟨q1, z⟩) w h
  rw [if_neg z7] at hc
  by_cases z8 : W.at 0 = 8
  · rw [if_pos z8] at hc
    by_cases hq : W.at 1 < 256
    · rw [if_pos hq] at hc; cases hc
    clear hc
    exact call8no1 b W hw z8 hq w h
  rw [if_neg z8] at hc
  by_cases z9 : W.at 0 = 9
  · rw [if_pos z9] at hc
    by_cases hq : W.at 1 < 256
    · rw [if_pos hq] at hc; cases hc
    clear hc
    exact call9no1 b W hw z9 hq w h
  rw [if_neg z9] at hc
  by_cases z10 : W.at 0 = 10
  · rw [if_pos z10] at hc
    by_cases hq : W.at 1 < 140737488355328
    · rw [if_pos hq] at hc; cases hc
    clear hc
    exact call10no1 b W hw z10 hq w h
  rw [if_neg z10] at hc
  by_cases z11 : W.at 0 = 11
  · rw [if_pos z11] at hc
    cases hc
  rw [if_neg z11] at hc
  by_cases z12 : W.at 0 = 12
  · rw [if_pos z12] at hc
    by_cases hq : W.at 1 < 1048577
    · rw [if_pos hq] at hc; cases hc
    clear hc
    exact call12no1 b W hw z12 hq w h
  rw [if_neg z12] at hc
  by_cases z13 : W.at 0 = 13
  · rw [if_pos z13] at hc
    cases hc
  rw [if_neg z13] at hc
  by_cases z14 : W.at 0 = 14
  · rw [if_pos z14] at hc
    cases hc
  rw [if_neg z14] at hc
  by_cases z15 : W.at 0 = 15
  · rw [if_pos z15] at hc
    by_cases hq : W.at 1 < 8 ∧ W.at 2 < 4 ∧ W.at 3 < 4 ∧ W.at 4 < 4
    · rw [if_pos hq] at hc; cases hc
    clear hc
    by_cases q1 : W.at 1 < 8
    rotate_left
    · exact call15no1 b W hw z15 q1 w h
    by_cases q2 : W.at 2 < 4
    rotate_left
    · exact call15no2 b W hw z15 q1 q2 w h
    by_cases q3 : W.at 3 < 4
    rotate_left
    · exact call15no3 b W hw z15 q1 q2 q3 w h
    exact call15no4 b W hw z15 q1 q2 q3 (fun z => hq ⟨q1, q2, q3, z⟩) w h
  rw [if_neg z15] at hc
  by_cases z16 : W.at 0 = 16
  · rw [if_pos z16] at hc
    by_cases hq : W.at 1 < 4
    · rw [if_pos hq] at hc; cases hc
    clear hc
    exact call16no1 b W hw z16 hq w h
  rw [if_neg z16] at hc
  by_cases z5 : W.at 0 = 5
  · rw [if_pos z5] at hc
    by_cases hq : spotOk (W.at 1) (W.at 2)
    rotate_left
    · exact call5no1 b W hw z5 hq w h
    rw [if_pos hq] at hc
    by_cases hr : (W.at 2 = 1 ∧ W.at 3 < 256) ∨ (W.at 2 = 2 ∧ W.at 3 < 65536) ∨ (W.at 2 = 4 ∧ W.at 3 < 4294967296) ∨ (W.at 2 = 8 ∧ W.at 3 < 18446744073709551616)
    · rw [if_pos hr] at hc; cases hc
    clear hc
    have b3 := hw 3
    rcases hq.2.1 with r | r | r | r
    · exact call5no2_1 b W hw z5 r hq (fun z => hr (by omega)) w h
    · exact call5no2_2 b W hw z5 r hq (fun z => hr (by omega)) w h
    · exact call5no2_4 b W hw z5 r hq (fun z => hr (by omega)) w h
    · exact absurd (by omega) hr
  have b0 := hw 0
  by_cases z0 : W.at 0 = 0
  · exact callD b W hw z0 w h
  · exact callX b W (by omega) w h
end Go.Proofs.Ytccbacjiiffheaa
