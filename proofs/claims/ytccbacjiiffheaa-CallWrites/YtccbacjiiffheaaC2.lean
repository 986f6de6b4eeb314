/- Words of a call: place, sized. -/
import Derived.Test.YtccbacjiiffheaaC0
namespace Go.Proofs.Ytccbacjiiffheaa
open Go.ChangeShapes Go.WideShapes Go.ChangeAt Go.RowKit Go.Maps
set_option linter.unusedSimpArgs false
set_option linter.unusedVariables false

/-- two words that are an address and its size -/
def spotOk (a s : Int) : Prop := a < 140737488355328 ∧ (s = 1 ∨ s = 2 ∨ s = 4 ∨ s = 8) ∧ a % s = 0
instance (a s : Int) : Decidable (spotOk a s) := by unfold spotOk; infer_instance
set_option maxHeartbeats 1000000 in
theorem place_yes (b : Nat) (W : Wd) (k : Nat) (hk : k + 2 ≤ 6) (hw : W.wf) (hl : spotOk (W.at k) (W.at (k + 1))) (w : World) (h : IsR w b W k) : Calls Try.prog 33 #[.pointer (some ⟨b, 0, none⟩)] w fun e w' => e = .returned (.tuple #[.int .u64 (W.at k), .int .i64 (W.at (k + 1))]) ∧ IsR w' b W (k + 2) ∧ Kb b w w' := by
  obtain ⟨l1, l2, l3⟩ := hl
  have N1 : Hid (∀ w : World, IsR w b W (k) → Calls Try.prog 36 #[.pointer (some ⟨b, 0, none⟩), .int .u64 140737488355328] w fun e w' => e = .returned (.int .u64 (W.at (k))) ∧ IsR w' b W (k + 1) ∧ Kb b w w') := fun w h => below_yes b W (k) (by omega) 140737488355328 l1 w h
  have N2 : Hid (∀ w : World, IsR w b W (k + 1) → Calls Try.prog 30 #[.pointer (some ⟨b, 0, none⟩), .int .u64 9] w fun e w' => e = .returned (.int .i64 (W.at (k + 1))) ∧ IsR w' b W (k + 1 + 1) ∧ Kb b w w') := fun w h => number_yes b W (k + 1) (by omega) hw 9 (by omega) (by omega) w h
  have IY : Hid (∀ w : World, Calls Try.prog 38 #[.bool true] w fun e w' => e = .returned (.tuple #[]) ∧ w' = w) := insist_yes
  have H0 : Hid (IsR w b W k) := h
  have lt0 := blk_lt h
  clear h
  have K0 : Hid (Kb b w w) := Kb.refl _ _
  have A0 : Hid (IsR w b W k) := H0.out
  have p0 := (hw k).1
  clear hw
  generalize W.at k = x at *
  generalize W.at (k + 1) = y at *
  rcases l2 with rfl | rfl | rfl | rfl
  · have t1 : x.tmod 1 = 0 := by rw [Int.tmod_eq_emod_of_nonneg p0]; exact l3
    go_enter Try.func33, Try.ntmps33
    go_wp2_with fail
    refine (N1.out _ A0.out).mono ?_
    rintro e u1 ⟨rfl, h1, k1⟩
    have A1 : Hid (IsR u1 b W (k + 1)) := h1
    have K1 : Hid (Kb b w u1) := K0.out.trans k1
    clear h1 k1 A0 K0
    go_wp2_with fail
    refine (N2.out _ A1.out).mono ?_
    rintro e u2 ⟨rfl, h1, k1⟩
    have A2 : Hid (IsR u2 b W (k + 1 + 1)) := h1
    have K2 : Hid (Kb b w u2) := K1.out.trans k1
    clear h1 k1 A1 K1
    go_wp2_with fail
    refine (IY.out _).mono ?_
    rintro e u8 ⟨rfl, hu⟩
    have hu2 := hu.symm
    subst hu2
    go_wp2_with fail
    refine (IY.out _).mono ?_
    rintro e u8 ⟨rfl, hu⟩
    have hu2 := hu.symm
    subst hu2
    go_wp2_with fail
    go_returns
    exact ⟨rfl, A2.out, K2.out⟩
  · have t1 : x.tmod 2 = 0 := by rw [Int.tmod_eq_emod_of_nonneg p0]; exact l3
    go_enter Try.func33, Try.ntmps33
    go_wp2_with fail
    refine (N1.out _ A0.out).mono ?_
    rintro e u1 ⟨rfl, h1, k1⟩
    have A1 : Hid (IsR u1 b W (k + 1)) := h1
    have K1 : Hid (Kb b w u1) := K0.out.trans k1
    clear h1 k1 A0 K0
    go_wp2_with fail
    refine (N2.out _ A1.out).mono ?_
    rintro e u2 ⟨rfl, h1, k1⟩
    have A2 : Hid (IsR u2 b W (k + 1 + 1)) := h1
    have K2 : Hid (Kb b w u2) := K1.out.trans k1
    clear h1 k1 A1 K1
    go_wp2_with fail
    refine (IY.out _).mono ?_
    rintro e u8 ⟨rfl, hu⟩
    have hu2 := hu.symm
    subst hu2
    go_wp2_with fail
    refine (IY.out _).mono ?_
    rintro e u8 ⟨rfl, hu⟩
    have hu2 := hu.symm
    subst hu2
    go_wp2_with fail
    go_returns
    exact ⟨rfl, A2.out, K2.out⟩
  · have t1 : x.tmod 4 = 0 := by rw [Int.tmod_eq_emod_of_nonneg p0]; exact l3
    go_enter Try.func33, Try.ntmps33
    go_wp2_with fail
    refine (N1.out _ A0.out).mono ?_
    rintro e u1 ⟨rfl, h1, k1⟩
    have A1 : Hid (IsR u1 b W (k + 1)) := h1
    have K1 : Hid (Kb b w u1) := K0.out.trans k1
    clear h1 k1 A0 K0
    go_wp2_with fail
    refine (N2.out _ A1.out).mono ?_
    rintro e u2 ⟨rfl, h1, k1⟩
    have A2 : Hid (IsR u2 b W (k + 1 + 1)) := h1
    have K2 : Hid (Kb b w u2) := K1.out.trans k1
    clear h1 k1 A1 K1
    go_wp2_with fail
    refine (IY.out _).mono ?_
    rintro e u8 ⟨rfl, hu⟩
    have hu2 := hu.symm
    subst hu2
    go_wp2_with fail
    refine (IY.out _).mono ?_
    rintro e u8 ⟨rfl, hu⟩
    have hu2 := hu.symm
    subst hu2
    go_wp2_with fail
    go_returns
    exact ⟨rfl, A2.out, K2.out⟩
  · have t1 : x.tmod 8 = 0 := by rw [Int.tmod_eq_emod_of_nonneg p0]; exact l3
    go_enter Try.func33, Try.ntmps33
    go_wp2_with fail
    refine (N1.out _ A0.out).mono ?_
    rintro e u1 ⟨rfl, h1, k1⟩
    have A1 : Hid (IsR u1 b W (k + 1)) := h1
    have K1 : Hid (Kb b w u1) := K0.out.trans k1
    clear h1 k1 A0 K0
    go_wp2_with fail
    refine (N2.out _ A1.out).mono ?_
    rintro e u2 ⟨rfl, h1, k1⟩
    have A2 : Hid (IsR u2 b W (k + 1 + 1)) := h1
    have K2 : Hid (Kb b w u2) := K1.out.trans k1
    clear h1 k1 A1 K1
    go_wp2_with fail
    refine (IY.out _).mono ?_
    rintro e u8 ⟨rfl, hu⟩
    have hu2 := hu.symm
    subst hu2
    go_wp2_with fail
    refine (IY.out _).mono ?_
    rintro e u8 ⟨rfl, hu⟩
    have hu2 := hu.symm
    subst hu2
    go_wp2_with fail
    go_returns
    exact ⟨rfl, A2.out, K2.out⟩
set_option maxHeartbeats 1000000 in
theorem place_no (b : Nat) (W : Wd) (k : Nat) (hk : k + 2 ≤ 6) (hw : W.wf) (hl : ¬ spotOk (W.at k) (W.at (k + 1))) (w : World) (h : IsR w b W k) : Calls Try.prog 33 #[.pointer (some ⟨b, 0, none⟩)] w fun e w' => e = .panicked [refv] ∧ Kb b w w' := by
  by_cases l1 : W.at k < 140737488355328
  rotate_left
  · have N1 : Hid (∀ w : World, IsR w b W (k) → Calls Try.prog 36 #[.pointer (some ⟨b, 0, none⟩), .int .u64 140737488355328] w fun e w' => e = .panicked [refv] ∧ Kb b w w') := fun w h => below_no b W (k) (by omega) 140737488355328 l1 w h
    have H0 : Hid (IsR w b W k) := h
    have lt0 := blk_lt h
    clear h
    have K0 : Hid (Kb b w w) := Kb.refl _ _
    have A0 : Hid (IsR w b W k) := H0.out
    clear hw
    go_enter Try.func33, Try.ntmps33
    go_wp2_with fail
    refine (N1.out _ A0.out).mono ?_
    rintro e u9 ⟨rfl, k1⟩
    exact ⟨rfl, rfl, K0.out.trans k1⟩
  have N1 : Hid (∀ w : World, IsR w b W (k) → Calls Try.prog 36 #[.pointer (some ⟨b, 0, none⟩), .int .u64 140737488355328] w fun e w' => e = .returned (.int .u64 (W.at (k))) ∧ IsR w' b W (k + 1) ∧ Kb b w w') := fun w h => below_yes b W (k) (by omega) 140737488355328 l1 w h
  by_cases l2 : W.at (k + 1) < 9
  rotate_left
  · have N2 : Hid (∀ w : World, IsR w b W (k + 1) → Calls Try.prog 30 #[.pointer (some ⟨b, 0, none⟩), .int .u64 9] w fun e w' => e = .panicked [refv] ∧ Kb b w w') := fun w h => number_no b W (k + 1) (by omega) 9 l2 w h
    have H0 : Hid (IsR w b W k) := h
    have lt0 := blk_lt h
    clear h
    have K0 : Hid (Kb b w w) := Kb.refl _ _
    have A0 : Hid (IsR w b W k) := H0.out
    clear hw
    go_enter Try.func33, Try.ntmps33
    go_wp2_with fail
    refine (N1.out _ A0.out).mono ?_
    rintro e u1 ⟨rfl, h1, k1⟩
    have A1 : Hid (IsR u1 b W (k + 1)) := h1
    have K1 : Hid (Kb b w u1) := K0.out.trans k1
    clear h1 k1 A0 K0
    go_wp2_with fail
    refine (N2.out _ A1.out).mono ?_
    rintro e u9 ⟨rfl, k1⟩
    exact ⟨rfl, rfl, K1.out.trans k1⟩
  have N2 : Hid (∀ w : World, IsR w b W (k + 1) → Calls Try.prog 30 #[.pointer (some ⟨b, 0, none⟩), .int .u64 9] w fun e w' => e = .returned (.int .i64 (W.at (k + 1))) ∧ IsR w' b W (k + 1 + 1) ∧ Kb b w w') := fun w h => number_yes b W (k + 1) (by omega) hw 9 (by omega) l2 w h
  have IY : Hid (∀ w : World, Calls Try.prog 38 #[.bool true] w fun e w' => e = .returned (.tuple #[]) ∧ w' = w) := insist_yes
  have IN : Hid (∀ w : World, Calls Try.prog 38 #[.bool false] w fun e w' => e = .panicked [refv] ∧ w' = w) := insist_no
  have H0 : Hid (IsR w b W k) := h
  have lt0 := blk_lt h
  clear h
  have K0 : Hid (Kb b w w) := Kb.refl _ _
  have A0 : Hid (IsR w b W k) := H0.out
  have p0 := (hw k).1
  have p1 := (hw (k + 1)).1
  have hl2 : (W.at (k + 1) = 1 ∨ W.at (k + 1) = 2 ∨ W.at (k + 1) = 4 ∨ W.at (k + 1) = 8) → ¬ W.at k % W.at (k + 1) = 0 := fun z q => hl ⟨l1, z, q⟩
  clear hw hl
  generalize W.at k = x at *
  generalize W.at (k + 1) = y at *
  by_cases l3 : y = 1 ∨ y = 2 ∨ y = 4 ∨ y = 8
  · have l4 := hl2 l3
    clear hl2
    rcases l3 with rfl | rfl | rfl | rfl
    · exact absurd (Int.emod_one x) l4
    · have t0 : ¬ x % 2 = 0 := l4
      have t1 : (x % 2 == 0) = false := by simp only [beq_eq_false_iff_ne]; exact t0
      go_enter Try.func33, Try.ntmps33
      go_wp2_with fail
      refine (N1.out _ A0.out).mono ?_
      rintro e u1 ⟨rfl, h1, k1⟩
      have A1 : Hid (IsR u1 b W (k + 1)) := h1
      have K1 : Hid (Kb b w u1) := K0.out.trans k1
      clear h1 k1 A0 K0
      go_wp2_with fail
      refine (N2.out _ A1.out).mono ?_
      rintro e u2 ⟨rfl, h1, k1⟩
      have A2 : Hid (IsR u2 b W (k + 1 + 1)) := h1
      have K2 : Hid (Kb b w u2) := K1.out.trans k1
      clear h1 k1 A1 K1
      go_wp2_with fail
      refine (IY.out _).mono ?_
      rintro e u8 ⟨rfl, hu⟩
      have hu2 := hu.symm
      subst hu2
      go_wp2_with fail
      refine (IN.out _).mono ?_
      rintro e u8 ⟨rfl, hu⟩
      have hu2 := hu.symm
      subst hu2
      exact ⟨rfl, rfl, K2.out⟩
    · have t0 : ¬ x % 4 = 0 := l4
      have t1 : (x % 4 == 0) = false := by simp only [beq_eq_false_iff_ne]; exact t0
      go_enter Try.func33, Try.ntmps33
      go_wp2_with fail
      refine (N1.out _ A0.out).mono ?_
      rintro e u1 ⟨rfl, h1, k1⟩
      have A1 : Hid (IsR u1 b W (k + 1)) := h1
      have K1 : Hid (Kb b w u1) := K0.out.trans k1
      clear h1 k1 A0 K0
      go_wp2_with fail
      refine (N2.out _ A1.out).mono ?_
      rintro e u2 ⟨rfl, h1, k1⟩
      have A2 : Hid (IsR u2 b W (k + 1 + 1)) := h1
      have K2 : Hid (Kb b w u2) := K1.out.trans k1
      clear h1 k1 A1 K1
      go_wp2_with fail
      refine (IY.out _).mono ?_
      rintro e u8 ⟨rfl, hu⟩
      have hu2 := hu.symm
      subst hu2
      go_wp2_with fail
      refine (IN.out _).mono ?_
      rintro e u8 ⟨rfl, hu⟩
      have hu2 := hu.symm
      subst hu2
      exact ⟨rfl, rfl, K2.out⟩
    · have t0 : ¬ x % 8 = 0 := l4
      have t1 : (x % 8 == 0) = false := by simp only [beq_eq_false_iff_ne]; exact t0
      go_enter Try.func33, Try.ntmps33
      go_wp2_with fail
      refine (N1.out _ A0.out).mono ?_
      rintro e u1 ⟨rfl, h1, k1⟩
      have A1 : Hid (IsR u1 b W (k + 1)) := h1
      have K1 : Hid (Kb b w u1) := K0.out.trans k1
      clear h1 k1 A0 K0
      go_wp2_with fail
      refine (N2.out _ A1.out).mono ?_
      rintro e u2 ⟨rfl, h1, k1⟩
      have A2 : Hid (IsR u2 b W (k + 1 + 1)) := h1
      have K2 : Hid (Kb b w u2) := K1.out.trans k1
      clear h1 k1 A1 K1
      go_wp2_with fail
      refine (IY.out _).mono ?_
      rintro e u8 ⟨rfl, hu⟩
      have hu2 := hu.symm
      subst hu2
      go_wp2_with fail
      refine (IN.out _).mono ?_
      rintro e u8 ⟨rfl, hu⟩
      have hu2 := hu.symm
      subst hu2
      exact ⟨rfl, rfl, K2.out⟩
  · clear hl2
    have e1 : (y == 1) = false := by simp; omega
    have e2 : (y == 2) = false := by simp; omega
    have e4 : (y == 4) = false := by simp; omega
    have e8 : (y == 8) = false := by simp; omega
    have g1 : ¬ y = 1 := by omega
    have g2 : ¬ y = 2 := by omega
    have g4 : ¬ y = 4 := by omega
    have g8 : ¬ y = 8 := by omega
    go_enter Try.func33, Try.ntmps33
    go_wp2_with fail
    refine (N1.out _ A0.out).mono ?_
    rintro e u1 ⟨rfl, h1, k1⟩
    have A1 : Hid (IsR u1 b W (k + 1)) := h1
    have K1 : Hid (Kb b w u1) := K0.out.trans k1
    clear h1 k1 A0 K0
    go_wp2_with fail
    refine (N2.out _ A1.out).mono ?_
    rintro e u2 ⟨rfl, h1, k1⟩
    have A2 : Hid (IsR u2 b W (k + 1 + 1)) := h1
    have K2 : Hid (Kb b w u2) := K1.out.trans k1
    clear h1 k1 A1 K1
    go_wp2_with fail
    refine (IN.out _).mono ?_
    rintro e u8 ⟨rfl, hu⟩
    have hu2 := hu.symm
    subst hu2
    exact ⟨rfl, rfl, K2.out⟩
set_option maxHeartbeats 1000000 in
theorem sized_yes1 (b : Nat) (W : Wd) (k : Nat) (hk : k + 1 ≤ 6) (hw : W.wf) (hl : W.at k < 256) (w : World) (h : IsR w b W k) : Calls Try.prog 34 #[.pointer (some ⟨b, 0, none⟩), .int .i64 1] w fun e w' => e = .returned (.int .u64 (W.at k)) ∧ IsR w' b W (k + 1) ∧ Kb b w w' := by
  have N1 : Hid (∀ w : World, IsR w b W k → Calls Try.prog 37 #[.pointer (some ⟨b, 0, none⟩)] w fun e w' => e = .returned (.int .u64 (W.at k)) ∧ IsR w' b W (k + 1) ∧ Kb b w w') := fun w h => word_any b W k (by omega) w h
  have IY : Hid (∀ w : World, Calls Try.prog 38 #[.bool true] w fun e w' => e = .returned (.tuple #[]) ∧ w' = w) := insist_yes
  have H0 : Hid (IsR w b W k) := h
  have lt0 := blk_lt h
  clear h
  have K0 : Hid (Kb b w w) := Kb.refl _ _
  have A0 : Hid (IsR w b W k) := H0.out
  have p0 := (hw k).1
  have p1 := (hw k).2
  clear hw
  generalize W.at k = x at *
  go_enter Try.func34, Try.ntmps34
  go_wp2_with fail
  refine (N1.out _ A0.out).mono ?_
  rintro e u1 ⟨rfl, h1, k1⟩
  have A1 : Hid (IsR u1 b W (k + 1)) := h1
  have K1 : Hid (Kb b w u1) := K0.out.trans k1
  clear h1 k1 A0 K0
  have sh : x / 256 = 0 := Int.ediv_eq_zero_of_lt p0 (by omega)
  go_wp2_with fail
  refine (IY.out _).mono ?_
  rintro e u8 ⟨rfl, hu⟩
  have hu2 := hu.symm
  subst hu2
  go_wp2_with fail
  go_returns
  exact ⟨rfl, A1.out, K1.out⟩
set_option maxHeartbeats 1000000 in
theorem sized_no1 (b : Nat) (W : Wd) (k : Nat) (hk : k + 1 ≤ 6) (hw : W.wf) (hl : ¬ W.at k < 256) (w : World) (h : IsR w b W k) : Calls Try.prog 34 #[.pointer (some ⟨b, 0, none⟩), .int .i64 1] w fun e w' => e = .panicked [refv] ∧ Kb b w w' := by
  have N1 : Hid (∀ w : World, IsR w b W k → Calls Try.prog 37 #[.pointer (some ⟨b, 0, none⟩)] w fun e w' => e = .returned (.int .u64 (W.at k)) ∧ IsR w' b W (k + 1) ∧ Kb b w w') := fun w h => word_any b W k (by omega) w h
  have IN : Hid (∀ w : World, Calls Try.prog 38 #[.bool false] w fun e w' => e = .panicked [refv] ∧ w' = w) := insist_no
  have H0 : Hid (IsR w b W k) := h
  have lt0 := blk_lt h
  clear h
  have K0 : Hid (Kb b w w) := Kb.refl _ _
  have A0 : Hid (IsR w b W k) := H0.out
  have p0 := (hw k).1
  have p1 := (hw k).2
  clear hw
  generalize W.at k = x at *
  go_enter Try.func34, Try.ntmps34
  go_wp2_with fail
  refine (N1.out _ A0.out).mono ?_
  rintro e u1 ⟨rfl, h1, k1⟩
  have A1 : Hid (IsR u1 b W (k + 1)) := h1
  have K1 : Hid (Kb b w u1) := K0.out.trans k1
  clear h1 k1 A0 K0
  have sh : 0 < x / 256 := by omega
  have sh2 : ¬ x / 256 = 0 := by omega
  have sh3 : (x / 256 == 0) = false := by simp [sh2]
  go_wp2_with fail
  refine (IN.out _).mono ?_
  rintro e u8 ⟨rfl, hu⟩
  have hu2 := hu.symm
  subst hu2
  exact ⟨rfl, rfl, K1.out⟩
set_option maxHeartbeats 1000000 in
theorem sized_yes2 (b : Nat) (W : Wd) (k : Nat) (hk : k + 1 ≤ 6) (hw : W.wf) (hl : W.at k < 65536) (w : World) (h : IsR w b W k) : Calls Try.prog 34 #[.pointer (some ⟨b, 0, none⟩), .int .i64 2] w fun e w' => e = .returned (.int .u64 (W.at k)) ∧ IsR w' b W (k + 1) ∧ Kb b w w' := by
  have N1 : Hid (∀ w : World, IsR w b W k → Calls Try.prog 37 #[.pointer (some ⟨b, 0, none⟩)] w fun e w' => e = .returned (.int .u64 (W.at k)) ∧ IsR w' b W (k + 1) ∧ Kb b w w') := fun w h => word_any b W k (by omega) w h
  have IY : Hid (∀ w : World, Calls Try.prog 38 #[.bool true] w fun e w' => e = .returned (.tuple #[]) ∧ w' = w) := insist_yes
  have H0 : Hid (IsR w b W k) := h
  have lt0 := blk_lt h
  clear h
  have K0 : Hid (Kb b w w) := Kb.refl _ _
  have A0 : Hid (IsR w b W k) := H0.out
  have p0 := (hw k).1
  have p1 := (hw k).2
  clear hw
  generalize W.at k = x at *
  go_enter Try.func34, Try.ntmps34
  go_wp2_with fail
  refine (N1.out _ A0.out).mono ?_
  rintro e u1 ⟨rfl, h1, k1⟩
  have A1 : Hid (IsR u1 b W (k + 1)) := h1
  have K1 : Hid (Kb b w u1) := K0.out.trans k1
  clear h1 k1 A0 K0
  have sh : x / 65536 = 0 := Int.ediv_eq_zero_of_lt p0 (by omega)
  go_wp2_with fail
  refine (IY.out _).mono ?_
  rintro e u8 ⟨rfl, hu⟩
  have hu2 := hu.symm
  subst hu2
  go_wp2_with fail
  go_returns
  exact ⟨rfl, A1.out, K1.out⟩
set_option maxHeartbeats 1000000 in
theorem sized_no2 (b : Nat) (W : Wd) (k : Nat) (hk : k + 1 ≤ 6) (hw : W.wf) (hl : ¬ W.at k < 65536) (w : World) (h : IsR w b W k) : Calls Try.prog 34 #[.pointer (some ⟨b, 0, none⟩), .int .i64 2] w fun e w' => e = .panicked [refv] ∧ Kb b w w' := by
  have N1 : Hid (∀ w : World, IsR w b W k → Calls Try.prog 37 #[.pointer (some ⟨b, 0, none⟩)] w fun e w' => e = .returned (.int .u64 (W.at k)) ∧ IsR w' b W (k + 1) ∧ Kb b w w') := fun w h => word_any b W k (by omega) w h
  have IN : Hid (∀ w : World, Calls Try.prog 38 #[.bool false] w fun e w' => e = .panicked [refv] ∧ w' = w) := insist_no
  have H0 : Hid (IsR w b W k) := h
  have lt0 := blk_lt h
  clear h
  have K0 : Hid (Kb b w w) := Kb.refl _ _
  have A0 : Hid (IsR w b W k) := H0.out
  have p0 := (hw k).1
  have p1 := (hw k).2
  clear hw
  generalize W.at k = x at *
  go_enter Try.func34, Try.ntmps34
  go_wp2_with fail
  refine (N1.out _ A0.out).mono ?_
  rintro e u1 ⟨rfl, h1, k1⟩
  have A1 : Hid (IsR u1 b W (k + 1)) := h1
  have K1 : Hid (Kb b w u1) := K0.out.trans k1
  clear h1 k1 A0 K0
  have sh : 0 < x / 65536 := by omega
  have sh2 : ¬ x / 65536 = 0 := by omega
  have sh3 : (x / 65536 == 0) = false := by simp [sh2]
  go_wp2_with fail
  refine (IN.out _).mono ?_
  rintro e u8 ⟨rfl, hu⟩
  have hu2 := hu.symm
  subst hu2
  exact ⟨rfl, rfl, K1.out⟩
set_option maxHeartbeats 1000000 in
theorem sized_yes4 (b : Nat) (W : Wd) (k : Nat) (hk : k + 1 ≤ 6) (hw : W.wf) (hl : W.at k < 4294967296) (w : World) (h : IsR w b W k) : Calls Try.prog 34 #[.pointer (some ⟨b, 0, none⟩), .int .i64 4] w fun e w' => e = .returned (.int .u64 (W.at k)) ∧ IsR w' b W (k + 1) ∧ Kb b w w' := by
  have N1 : Hid (∀ w : World, IsR w b W k → Calls Try.prog 37 #[.pointer (some ⟨b, 0, none⟩)] w fun e w' => e = .returned (.int .u64 (W.at k)) ∧ IsR w' b W (k + 1) ∧ Kb b w w') := fun w h => word_any b W k (by omega) w h
  have IY : Hid (∀ w : World, Calls Try.prog 38 #[.bool true] w fun e w' => e = .returned (.tuple #[]) ∧ w' = w) := insist_yes
  have H0 : Hid (IsR w b W k) := h
  have lt0 := blk_lt h
  clear h
  have K0 : Hid (Kb b w w) := Kb.refl _ _
  have A0 : Hid (IsR w b W k) := H0.out
  have p0 := (hw k).1
  have p1 := (hw k).2
  clear hw
  generalize W.at k = x at *
  go_enter Try.func34, Try.ntmps34
  go_wp2_with fail
  refine (N1.out _ A0.out).mono ?_
  rintro e u1 ⟨rfl, h1, k1⟩
  have A1 : Hid (IsR u1 b W (k + 1)) := h1
  have K1 : Hid (Kb b w u1) := K0.out.trans k1
  clear h1 k1 A0 K0
  have sh : x / 4294967296 = 0 := Int.ediv_eq_zero_of_lt p0 (by omega)
  go_wp2_with fail
  refine (IY.out _).mono ?_
  rintro e u8 ⟨rfl, hu⟩
  have hu2 := hu.symm
  subst hu2
  go_wp2_with fail
  go_returns
  exact ⟨rfl, A1.out, K1.out⟩
set_option maxHeartbeats 1000000 in
theorem sized_no4 (b : Nat) (W : Wd) (k : Nat) (hk : k + 1 ≤ 6) (hw : W.wf) (hl : ¬ W.at k < 4294967296) (w : World) (h : IsR w b W k) : Calls Try.prog 34 #[.pointer (some ⟨b, 0, none⟩), .int .i64 4] w fun e w' => e = .panicked [refv] ∧ Kb b w w' := by
  have N1 : Hid (∀ w : World, IsR w b W k → Calls Try.prog 37 #[.pointer (some ⟨b, 0, none⟩)] w fun e w' => e = .returned (.int .u64 (W.at k)) ∧ IsR w' b W (k + 1) ∧ Kb b w w') := fun w h => word_any b W k (by omega) w h
  have IN : Hid (∀ w : World, Calls Try.prog 38 #[.bool false] w fun e w' => e = .panicked [refv] ∧ w' = w) := insist_no
  have H0 : Hid (IsR w b W k) := h
  have lt0 := blk_lt h
  clear h
  have K0 : Hid (Kb b w w) := Kb.refl _ _
  have A0 : Hid (IsR w b W k) := H0.out
  have p0 := (hw k).1
  have p1 := (hw k).2
  clear hw
  generalize W.at k = x at *
  go_enter Try.func34, Try.ntmps34
  go_wp2_with fail
  refine (N1.out _ A0.out).mono ?_
  rintro e u1 ⟨rfl, h1, k1⟩
  have A1 : Hid (IsR u1 b W (k + 1)) := h1
  have K1 : Hid (Kb b w u1) := K0.out.trans k1
  clear h1 k1 A0 K0
  have sh : 0 < x / 4294967296 := by omega
  have sh2 : ¬ x / 4294967296 = 0 := by omega
  have sh3 : (x / 4294967296 == 0) = false := by simp [sh2]
  go_wp2_with fail
  refine (IN.out _).mono ?_
  rintro e u8 ⟨rfl, hu⟩
  have hu2 := hu.symm
  subst hu2
  exact ⟨rfl, rfl, K1.out⟩
set_option maxHeartbeats 1000000 in
theorem sized_yes8 (b : Nat) (W : Wd) (k : Nat) (hk : k + 1 ≤ 6) (hw : W.wf) (hl : W.at k < 18446744073709551616) (w : World) (h : IsR w b W k) : Calls Try.prog 34 #[.pointer (some ⟨b, 0, none⟩), .int .i64 8] w fun e w' => e = .returned (.int .u64 (W.at k)) ∧ IsR w' b W (k + 1) ∧ Kb b w w' := by
  have N1 : Hid (∀ w : World, IsR w b W k → Calls Try.prog 37 #[.pointer (some ⟨b, 0, none⟩)] w fun e w' => e = .returned (.int .u64 (W.at k)) ∧ IsR w' b W (k + 1) ∧ Kb b w w') := fun w h => word_any b W k (by omega) w h
  have IY : Hid (∀ w : World, Calls Try.prog 38 #[.bool true] w fun e w' => e = .returned (.tuple #[]) ∧ w' = w) := insist_yes
  have H0 : Hid (IsR w b W k) := h
  have lt0 := blk_lt h
  clear h
  have K0 : Hid (Kb b w w) := Kb.refl _ _
  have A0 : Hid (IsR w b W k) := H0.out
  have p0 := (hw k).1
  have p1 := (hw k).2
  clear hw
  generalize W.at k = x at *
  go_enter Try.func34, Try.ntmps34
  go_wp2_with fail
  refine (N1.out _ A0.out).mono ?_
  rintro e u1 ⟨rfl, h1, k1⟩
  have A1 : Hid (IsR u1 b W (k + 1)) := h1
  have K1 : Hid (Kb b w u1) := K0.out.trans k1
  clear h1 k1 A0 K0
  have sh : x / 18446744073709551616 = 0 := Int.ediv_eq_zero_of_lt p0 (by omega)
  go_wp2_with fail
  refine (IY.out _).mono ?_
  rintro e u8 ⟨rfl, hu⟩
  have hu2 := hu.symm
  subst hu2
  go_wp2_with fail
  go_returns
  exact ⟨rfl, A1.out, K1.out⟩
end Go.Proofs.Ytccbacjiiffheaa
