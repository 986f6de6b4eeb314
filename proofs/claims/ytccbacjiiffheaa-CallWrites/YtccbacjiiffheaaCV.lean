/- The document's Read of any words; Told. -/
import Derived.Test.YtccbacjiiffheaaCTa
import Derived.Test.YtccbacjiiffheaaCTb
import Derived.Test.YtccbacjiiffheaaCTc
import Derived.Test.YtccbacjiiffheaaCTd
import Derived.Test.YtccbacjiiffheaaCTe
namespace Go.Proofs.Ytccbacjiiffheaa
open Go.ChangeShapes Go.WideShapes Go.ChangeAt Go.RowKit Go.Maps
set_option linter.unusedSimpArgs false
set_option linter.unusedVariables false

theorem ref_yes (W : Wd) (hw : W.wf) (c : Cl) (h : Says W c) (w : World) : Calls Try.prog 10 #[W.val] w fun e w' => e = .returned (.tuple #[c.val, .bool true]) ∧ Below w.heap.size w w' := by
  obtain ⟨n, hc, hz⟩ := h
  have b1 := hw 1; have b2 := hw 2; have b3 := hw 3; have b4 := hw 4
  have Z : ∀ i, n ≤ i → i < 6 → W.at i = 0 := hz
  obtain ⟨x0, x1, x2, x3, x4, x5⟩ := W
  have d0 : (Wd.mk x0 x1 x2 x3 x4 x5).at 0 = x0 := rfl
  have d1 : (Wd.mk x0 x1 x2 x3 x4 x5).at 1 = x1 := rfl
  have d2 : (Wd.mk x0 x1 x2 x3 x4 x5).at 2 = x2 := rfl
  have d3 : (Wd.mk x0 x1 x2 x3 x4 x5).at 3 = x3 := rfl
  have d4 : (Wd.mk x0 x1 x2 x3 x4 x5).at 4 = x4 := rfl
  have d5 : (Wd.mk x0 x1 x2 x3 x4 x5).at 5 = x5 := rfl
  cases case_of hc with
  | o1 h0 h1 h2 =>
    obtain rfl : x0 = 1 := h0
    obtain rfl : x4 = 0 := Z 4 (by omega) (by omega)
    obtain rfl : x5 = 0 := Z 5 (by omega) (by omega)
    have q : x3 = 0 ∨ x3 = 1 ∨ x3 = 2 ∨ x3 = 3 := by rw [d3] at h2 b3; omega
    rcases q with rfl | rfl | rfl | rfl
    · exact ref1_0 x1 x2 b1 b2 h1 w
    · exact ref1_1 x1 x2 b1 b2 h1 w
    · exact ref1_2 x1 x2 b1 b2 h1 w
    · exact ref1_3 x1 x2 b1 b2 h1 w
  | o2 h0 h1 =>
    obtain rfl : x0 = 2 := h0
    obtain rfl : x3 = 0 := Z 3 (by omega) (by omega)
    obtain rfl : x4 = 0 := Z 4 (by omega) (by omega)
    obtain rfl : x5 = 0 := Z 5 (by omega) (by omega)
    exact ref2 x1 x2 b1 b2 h1 w
  | o3 h0 h1 h2 =>
    obtain rfl : x0 = 3 := h0
    obtain rfl : x4 = 0 := Z 4 (by omega) (by omega)
    obtain rfl : x5 = 0 := Z 5 (by omega) (by omega)
    have q : x3 = 0 ∨ x3 = 1 ∨ x3 = 2 ∨ x3 = 3 := by rw [d3] at h2 b3; omega
    rcases q with rfl | rfl | rfl | rfl
    · exact ref3_0 x1 x2 b1 b2 h1 w
    · exact ref3_1 x1 x2 b1 b2 h1 w
    · exact ref3_2 x1 x2 b1 b2 h1 w
    · exact ref3_3 x1 x2 b1 b2 h1 w
  | o4 h0 h1 =>
    obtain rfl : x0 = 4 := h0
    obtain rfl : x3 = 0 := Z 3 (by omega) (by omega)
    obtain rfl : x4 = 0 := Z 4 (by omega) (by omega)
    obtain rfl : x5 = 0 := Z 5 (by omega) (by omega)
    have q : x2 = 1 ∨ x2 = 2 ∨ x2 = 4 ∨ x2 = 8 := h1.2.1
    rcases q with rfl | rfl | rfl | rfl
    · exact ref4_1 x1 b1 h1 w
    · exact ref4_2 x1 b1 h1 w
    · exact ref4_4 x1 b1 h1 w
    · exact ref4_8 x1 b1 h1 w
  | o6 h0 h1 h2 h3 =>
    obtain rfl : x0 = 6 := h0
    obtain rfl : x4 = 0 := Z 4 (by omega) (by omega)
    obtain rfl : x5 = 0 := Z 5 (by omega) (by omega)
    have q : x3 = 0 ∨ x3 = 1 := by rw [d3] at h3 b3; omega
    rcases q with rfl | rfl
    · exact ref6_0 x1 x2 b1 b2 h1 h2 w
    · exact ref6_1 x1 x2 b1 b2 h1 h2 w
  | o7 h0 h1 h2 =>
    obtain rfl : x0 = 7 := h0
    obtain rfl : x3 = 0 := Z 3 (by omega) (by omega)
    obtain rfl : x4 = 0 := Z 4 (by omega) (by omega)
    obtain rfl : x5 = 0 := Z 5 (by omega) (by omega)
    exact ref7 x1 x2 b1 b2 h1 h2 w
  | o8 h0 h1 =>
    obtain rfl : x0 = 8 := h0
    obtain rfl : x2 = 0 := Z 2 (by omega) (by omega)
    obtain rfl : x3 = 0 := Z 3 (by omega) (by omega)
    obtain rfl : x4 = 0 := Z 4 (by omega) (by omega)
    obtain rfl : x5 = 0 := Z 5 (by omega) (by omega)
    exact ref8 x1 b1 h1 w
  | o9 h0 h1 =>
    obtain rfl : x0 = 9 := h0
    obtain rfl : x2 = 0 := Z 2 (by omega) (by omega)
    obtain rfl : x3 = 0 := Z 3 (by omega) (by omega)
    obtain rfl : x4 = 0 := Z 4 (by omega) (by omega)
    obtain rfl : x5 = 0 := Z 5 (by omega) (by omega)
    exact ref9 x1 b1 h1 w
  | o10 h0 h1 =>
    obtain rfl : x0 = 10 := h0
    obtain rfl : x2 = 0 := Z 2 (by omega) (by omega)
    obtain rfl : x3 = 0 := Z 3 (by omega) (by omega)
    obtain rfl : x4 = 0 := Z 4 (by omega) (by omega)
    obtain rfl : x5 = 0 := Z 5 (by omega) (by omega)
    exact ref10 x1 b1 h1 w
  | o11 h0  =>
    obtain rfl : x0 = 11 := h0
    obtain rfl : x1 = 0 := Z 1 (by omega) (by omega)
    obtain rfl : x2 = 0 := Z 2 (by omega) (by omega)
    obtain rfl : x3 = 0 := Z 3 (by omega) (by omega)
    obtain rfl : x4 = 0 := Z 4 (by omega) (by omega)
    obtain rfl : x5 = 0 := Z 5 (by omega) (by omega)
    exact ref11    w
  | o12 h0 h1 =>
    obtain rfl : x0 = 12 := h0
    obtain rfl : x2 = 0 := Z 2 (by omega) (by omega)
    obtain rfl : x3 = 0 := Z 3 (by omega) (by omega)
    obtain rfl : x4 = 0 := Z 4 (by omega) (by omega)
    obtain rfl : x5 = 0 := Z 5 (by omega) (by omega)
    exact ref12 x1 b1 h1 w
  | o13 h0  =>
    obtain rfl : x0 = 13 := h0
    obtain rfl : x1 = 0 := Z 1 (by omega) (by omega)
    obtain rfl : x2 = 0 := Z 2 (by omega) (by omega)
    obtain rfl : x3 = 0 := Z 3 (by omega) (by omega)
    obtain rfl : x4 = 0 := Z 4 (by omega) (by omega)
    obtain rfl : x5 = 0 := Z 5 (by omega) (by omega)
    exact ref13    w
  | o14 h0  =>
    obtain rfl : x0 = 14 := h0
    obtain rfl : x1 = 0 := Z 1 (by omega) (by omega)
    obtain rfl : x2 = 0 := Z 2 (by omega) (by omega)
    obtain rfl : x3 = 0 := Z 3 (by omega) (by omega)
    obtain rfl : x4 = 0 := Z 4 (by omega) (by omega)
    obtain rfl : x5 = 0 := Z 5 (by omega) (by omega)
    exact ref14    w
  | o15 h0 h1 h2 h3 h4 =>
    obtain rfl : x0 = 15 := h0
    obtain rfl : x5 = 0 := Z 5 (by omega) (by omega)
    exact ref15 x1 x2 x3 x4 b1 b2 b3 b4 h1 h2 h3 h4 w
  | o16 h0 h1 =>
    obtain rfl : x0 = 16 := h0
    obtain rfl : x3 = 0 := Z 3 (by omega) (by omega)
    obtain rfl : x4 = 0 := Z 4 (by omega) (by omega)
    obtain rfl : x5 = 0 := Z 5 (by omega) (by omega)
    exact ref16 x1 x2 b1 b2 h1 w
  | o5 h0 h1 h2 =>
    obtain rfl : x0 = 5 := h0
    obtain rfl : x4 = 0 := Z 4 (by omega) (by omega)
    obtain rfl : x5 = 0 := Z 5 (by omega) (by omega)
    rw [d2, d3] at h2
    rcases h2 with ⟨rfl, q⟩ | ⟨rfl, q⟩ | ⟨rfl, q⟩ | ⟨rfl, q⟩
    · exact ref5_1 x1 x3 b1 b3 h1 q w
    · exact ref5_2 x1 x3 b1 b3 h1 q w
    · exact ref5_4 x1 x3 b1 b3 h1 q w
    · exact ref5_8 x1 x3 b1 b3 h1 w
theorem ref_no (W : Wd) (hw : W.wf) (h : ¬ ∃ c, Says W c) (w : World) : Calls Try.prog 10 #[W.val] w fun e w' => e = .returned (.tuple #[Cl.zero.val, .bool false]) ∧ Below w.heap.size w w' := by
  have b1 := hw 1; have b2 := hw 2; have b3 := hw 3; have b4 := hw 4
  by_cases hu : usedV (W.at 0) < 0
  · have e : usedV (W.at 0) = -1 := by
      unfold usedV at hu ⊢
      split at hu <;> rename_i q1
      · omega
      rw [if_neg q1]
      split at hu <;> rename_i q2
      · omega
      rw [if_neg q2]
      split at hu <;> rename_i q3
      · omega
      rw [if_neg q3]
      split at hu <;> rename_i q4
      · omega
      rw [if_neg q4]
      split at hu <;> rename_i q5
      · omega
      rw [if_neg q5]
    obtain ⟨x0, x1, x2, x3, x4, x5⟩ := W
    exact refU x0 x1 x2 x3 x4 x5 e w
  obtain ⟨n, hn⟩ : ∃ n : Nat, usedV (W.at 0) + 1 = n := ⟨(usedV (W.at 0) + 1).toNat, by omega⟩
  have n6 : n < 6 := by
    have : usedV (W.at 0) ≤ 4 := by unfold usedV; split; omega; split; omega; split; omega; split; omega; split <;> omega
    omega
  by_cases hz : restZ W n
  rotate_left
  · obtain ⟨x0, x1, x2, x3, x4, x5⟩ := W
    exact refZ x0 x1 x2 x3 x4 x5 n n6 hn hz w
  have hc : callV W = none := by
    cases hc : callV W with
    | none => rfl
    | some p =>
      obtain ⟨c, m⟩ := p
      have := (case_used (case_of hc)).1
      exact absurd ⟨c, m, hc, by rw [show m = n by omega]; exact hz⟩ h
  unfold callV at hc
  have Z : ∀ i, n ≤ i → i < 6 → W.at i = 0 := hz
  obtain ⟨x0, x1, x2, x3, x4, x5⟩ := W
  have d0 : (Wd.mk x0 x1 x2 x3 x4 x5).at 0 = x0 := rfl
  have d1 : (Wd.mk x0 x1 x2 x3 x4 x5).at 1 = x1 := rfl
  have d2 : (Wd.mk x0 x1 x2 x3 x4 x5).at 2 = x2 := rfl
  have d3 : (Wd.mk x0 x1 x2 x3 x4 x5).at 3 = x3 := rfl
  have d4 : (Wd.mk x0 x1 x2 x3 x4 x5).at 4 = x4 := rfl
  have d5 : (Wd.mk x0 x1 x2 x3 x4 x5).at 5 = x5 := rfl
  rw [d0, d1, d2, d3, d4] at hc
  rw [d0] at hn hu
  clear h
  by_cases z1 : x0 = 1
  · rw [if_pos z1] at hc
    subst z1
    have nn : n = 4 := by have : usedV 1 = 3 := (by decide); omega
    obtain rfl : x4 = 0 := Z 4 (by omega) (by omega)
    obtain rfl : x5 = 0 := Z 5 (by omega) (by omega)
    by_cases hq : pagesOk x1 x2 ∧ x3 < 4
    · rw [if_pos hq] at hc; cases hc
    clear hc
    by_cases q1 : pagesOk x1 x2
    rotate_left
    · exact ref1n1 x1 x2 x3 b1 b2 b3 q1 w
    exact ref1n2 x1 x2 x3 b1 b2 b3 q1 (fun z => hq ⟨q1, z⟩) w
  rw [if_neg z1] at hc
  by_cases z2 : x0 = 2
  · rw [if_pos z2] at hc
    subst z2
    have nn : n = 3 := by have : usedV 2 = 2 := (by decide); omega
    obtain rfl : x3 = 0 := Z 3 (by omega) (by omega)
    obtain rfl : x4 = 0 := Z 4 (by omega) (by omega)
    obtain rfl : x5 = 0 := Z 5 (by omega) (by omega)
    by_cases hq : pagesOk x1 x2
    · rw [if_pos hq] at hc; cases hc
    clear hc
    exact ref2n1 x1 x2 b1 b2 hq w
  rw [if_neg z2] at hc
  by_cases z3 : x0 = 3
  · rw [if_pos z3] at hc
    subst z3
    have nn : n = 4 := by have : usedV 3 = 3 := (by decide); omega
    obtain rfl : x4 = 0 := Z 4 (by omega) (by omega)
    obtain rfl : x5 = 0 := Z 5 (by omega) (by omega)
    by_cases hq : pagesOk x1 x2 ∧ x3 < 4
    · rw [if_pos hq] at hc; cases hc
    clear hc
    by_cases q1 : pagesOk x1 x2
    rotate_left
    · exact ref3n1 x1 x2 x3 b1 b2 b3 q1 w
    exact ref3n2 x1 x2 x3 b1 b2 b3 q1 (fun z => hq ⟨q1, z⟩) w
  rw [if_neg z3] at hc
  by_cases z4 : x0 = 4
  · rw [if_pos z4] at hc
    subst z4
    have nn : n = 3 := by have : usedV 4 = 2 := (by decide); omega
    obtain rfl : x3 = 0 := Z 3 (by omega) (by omega)
    obtain rfl : x4 = 0 := Z 4 (by omega) (by omega)
    obtain rfl : x5 = 0 := Z 5 (by omega) (by omega)
    by_cases hq : spotOk x1 x2
    · rw [if_pos hq] at hc; cases hc
    clear hc
    exact ref4n1 x1 x2 b1 b2 hq w
  rw [if_neg z4] at hc
  by_cases z6 : x0 = 6
  · rw [if_pos z6] at hc
    subst z6
    have nn : n = 4 := by have : usedV 6 = 3 := (by decide); omega
    obtain rfl : x4 = 0 := Z 4 (by omega) (by omega)
    obtain rfl : x5 = 0 := Z 5 (by omega) (by omega)
    by_cases hq : x1 < 34359738368 ∧ x2 < 16 ∧ x3 < 2
    · rw [if_pos hq] at hc; cases hc
    clear hc
    by_cases q1 : x1 < 34359738368
    rotate_left
    · exact ref6n1 x1 x2 x3 b1 b2 b3 q1 w
    by_cases q2 : x2 < 16
    rotate_left
    · exact ref6n2 x1 x2 x3 b1 b2 b3 q1 q2 w
    exact ref6n3 x1 x2 x3 b1 b2 b3 q1 q2 (fun z => hq ⟨q1, q2, z⟩) w
  rw [if_neg z6] at hc
  by_cases z7 : x0 = 7
  · rw [if_pos z7] at hc
    subst z7
    have nn : n = 3 := by have : usedV 7 = 2 := (by decide); omega
    obtain rfl : x3 = 0 := Z 3 (by omega) (by omega)
    obtain rfl : x4 = 0 := Z 4 (by omega) (by omega)
    obtain rfl : x5 = 0 := Z 5 (by omega) (by omega)
    by_cases hq : x1 < 256 ∧ x2 < 34359738368
    · rw [if_pos hq] at hc; cases hc
    clear hc
    by_cases q1 : x1 < 256
    rotate_left
    · exact ref7n1 x1 x2 b1 b2 q1 w
    exact ref7n2 x1 x2 b1 b2 q1 (fun z => hq ⟨q1, z⟩) w
  rw [if_neg z7] at hc
  by_cases z8 : x0 = 8
  · rw [if_pos z8] at hc
    subst z8
    have nn : n = 2 := by have : usedV 8 = 1 := (by decide); omega
    obtain rfl : x2 = 0 := Z 2 (by omega) (by omega)
    obtain rfl : x3 = 0 := Z 3 (by omega) (by omega)
    obtain rfl : x4 = 0 := Z 4 (by omega) (by omega)
    obtain rfl : x5 = 0 := Z 5 (by omega) (by omega)
    by_cases hq : x1 < 256
    · rw [if_pos hq] at hc; cases hc
    clear hc
    exact ref8n1 x1 b1 hq w
  rw [if_neg z8] at hc
  by_cases z9 : x0 = 9
  · rw [if_pos z9] at hc
    subst z9
    have nn : n = 2 := by have : usedV 9 = 1 := (by decide); omega
    obtain rfl : x2 = 0 := Z 2 (by omega) (by omega)
    obtain rfl : x3 = 0 := Z 3 (by omega) (by omega)
    obtain rfl : x4 = 0 := Z 4 (by omega) (by omega)
    obtain rfl : x5 = 0 := Z 5 (by omega) (by omega)
    by_cases hq : x1 < 256
    · rw [if_pos hq] at hc; cases hc
    clear hc
    exact ref9n1 x1 b1 hq w
  rw [if_neg z9] at hc
  by_cases z10 : x0 = 10
  · rw [if_pos z10] at hc
    subst z10
    have nn : n = 2 := by have : usedV 10 = 1 := (by decide); omega
    obtain rfl : x2 = 0 := Z 2 (by omega) (by omega)
    obtain rfl : x3 = 0 := Z 3 (by omega) (by omega)
    obtain rfl : x4 = 0 := Z 4 (by omega) (by omega)
    obtain rfl : x5 = 0 := Z 5 (by omega) (by omega)
    by_cases hq : x1 < 140737488355328
    · rw [if_pos hq] at hc; cases hc
    clear hc
    exact ref10n1 x1 b1 hq w
  rw [if_neg z10] at hc
  by_cases z11 : x0 = 11
  · rw [if_pos z11] at hc
    subst z11
    have nn : n = 1 := by have : usedV 11 = 0 := (by decide); omega
    obtain rfl : x1 = 0 := Z 1 (by omega) (by omega)
    obtain rfl : x2 = 0 := Z 2 (by omega) (by omega)
    obtain rfl : x3 = 0 := Z 3 (by omega) (by omega)
    obtain rfl : x4 = 0 := Z 4 (by omega) (by omega)
    obtain rfl : x5 = 0 := Z 5 (by omega) (by omega)
    cases hc
  rw [if_neg z11] at hc
  by_cases z12 : x0 = 12
  · rw [if_pos z12] at hc
    subst z12
    have nn : n = 2 := by have : usedV 12 = 1 := (by decide); omega
    obtain rfl : x2 = 0 := Z 2 (by omega) (by omega)
    obtain rfl : x3 = 0 := Z 3 (by omega) (by omega)
    obtain rfl : x4 = 0 := Z 4 (by omega) (by omega)
    obtain rfl : x5 = 0 := Z 5 (by omega) (by omega)
    by_cases hq : x1 < 1048577
    · rw [if_pos hq] at hc; cases hc
    clear hc
    exact ref12n1 x1 b1 hq w
  rw [if_neg z12] at hc
  by_cases z13 : x0 = 13
  · rw [if_pos z13] at hc
    subst z13
    have nn : n = 1 := by have : usedV 13 = 0 := (by decide); omega
    obtain rfl : x1 = 0 := Z 1 (by omega) (by omega)
    obtain rfl : x2 = 0 := Z 2 (by omega) (by omega)
    obtain rfl : x3 = 0 := Z 3 (by omega) (by omega)
    obtain rfl : x4 = 0 := Z 4 (by omega) (by omega)
    obtain rfl : x5 = 0 := Z 5 (by omega) (by omega)
    cases hc
  rw [if_neg z13] at hc
  by_cases z14 : x0 = 14
  · rw [if_pos z14] at hc
    subst z14
    have nn : n = 1 := by have : usedV 14 = 0 := (by decide); omega
    obtain rfl : x1 = 0 := Z 1 (by omega) (by omega)
    obtain rfl : x2 = 0 := Z 2 (by omega) (by omega)
    obtain rfl : x3 = 0 := Z 3 (by omega) (by omega)
    obtain rfl : x4 = 0 := Z 4 (by omega) (by omega)
    obtain rfl : x5 = 0 := Z 5 (by omega) (by omega)
    cases hc
  rw [if_neg z14] at hc
  by_cases z15 : x0 = 15
  · rw [if_pos z15] at hc
    subst z15
    have nn : n = 5 := by have : usedV 15 = 4 := (by decide); omega
    obtain rfl : x5 = 0 := Z 5 (by omega) (by omega)
    by_cases hq : x1 < 8 ∧ x2 < 4 ∧ x3 < 4 ∧ x4 < 4
    · rw [if_pos hq] at hc; cases hc
    clear hc
    by_cases q1 : x1 < 8
    rotate_left
    · exact ref15n1 x1 x2 x3 x4 b1 b2 b3 b4 q1 w
    by_cases q2 : x2 < 4
    rotate_left
    · exact ref15n2 x1 x2 x3 x4 b1 b2 b3 b4 q1 q2 w
    by_cases q3 : x3 < 4
    rotate_left
    · exact ref15n3 x1 x2 x3 x4 b1 b2 b3 b4 q1 q2 q3 w
    exact ref15n4 x1 x2 x3 x4 b1 b2 b3 b4 q1 q2 q3 (fun z => hq ⟨q1, q2, q3, z⟩) w
  rw [if_neg z15] at hc
  by_cases z16 : x0 = 16
  · rw [if_pos z16] at hc
    subst z16
    have nn : n = 3 := by have : usedV 16 = 2 := (by decide); omega
    obtain rfl : x3 = 0 := Z 3 (by omega) (by omega)
    obtain rfl : x4 = 0 := Z 4 (by omega) (by omega)
    obtain rfl : x5 = 0 := Z 5 (by omega) (by omega)
    by_cases hq : x1 < 4
    · rw [if_pos hq] at hc; cases hc
    clear hc
    exact ref16n1 x1 x2 b1 b2 hq w
  rw [if_neg z16] at hc
  by_cases z5 : x0 = 5
  · rw [if_pos z5] at hc
    subst z5
    have nn : n = 4 := by have : usedV 5 = 3 := (by decide); omega
    obtain rfl : x4 = 0 := Z 4 (by omega) (by omega)
    obtain rfl : x5 = 0 := Z 5 (by omega) (by omega)
    by_cases hq : spotOk x1 x2
    rotate_left
    · exact ref5n1 x1 x2 x3 b1 b2 b3 hq w
    rw [if_pos hq] at hc
    by_cases hr : (x2 = 1 ∧ x3 < 256) ∨ (x2 = 2 ∧ x3 < 65536) ∨ (x2 = 4 ∧ x3 < 4294967296) ∨ (x2 = 8 ∧ x3 < 18446744073709551616)
    · rw [if_pos hr] at hc; cases hc
    clear hc
    rw [d3] at b3
    rcases hq.2.1 with r | r | r | r
    · subst r; exact ref5_1n x1 x3 b1 b3 hq (fun z => hr (by omega)) w
    · subst r; exact ref5_2n x1 x3 b1 b3 hq (fun z => hr (by omega)) w
    · subst r; exact ref5_4n x1 x3 b1 b3 hq (fun z => hr (by omega)) w
    · exact absurd (by omega) hr
  exfalso
  apply hu
  have : usedV x0 = -1 := by
    unfold usedV
    rw [if_neg (by omega), if_neg (by omega), if_neg (by omega), if_neg (by omega), if_neg (by omega)]
  omega
set_option maxRecDepth 8000 in
set_option maxHeartbeats 8000000 in
theorem told_any (c : Cl) (w : World) : Calls Try.prog 12 #[c.val] w fun e w' => e = .returned c.val ∧ Below w.heap.size w w' := by
  obtain ⟨c0, c1, c2, c3, c4, c5, c6, c7, c8, c9, c10, c11, c12⟩ := c
  go_enter Try.func12, Try.ntmps12
  go_wp2_with fail
  go_returns
  exact ⟨rfl, Go.Joins.below_alloc2 _ _ _⟩
end Go.Proofs.Ytccbacjiiffheaa
