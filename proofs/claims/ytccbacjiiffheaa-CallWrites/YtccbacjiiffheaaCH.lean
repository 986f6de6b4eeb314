/- Words of a call: the words behind it. -/
import Derived.Test.YtccbacjiiffheaaC0
namespace Go.Proofs.Ytccbacjiiffheaa
open Go.ChangeShapes Go.WideShapes Go.ChangeAt Go.RowKit Go.Maps
set_option linter.unusedSimpArgs false
set_option linter.unusedVariables false

/-- the words from n on are nought -/
def restZ (W : Wd) (n : Nat) : Prop := ∀ i, n ≤ i → i < 6 → W.at i = 0
theorem lenW : Try.prog.arrayLen 24 = 6 := by kernel_rfl
theorem elemW : Try.prog.elem 24 = 22 := by kernel_rfl
theorem sizeU (W : World) : (sizeOf 22).run Try.prog W = .ok 1 W := by kernel_rfl
theorem sliceW (b i m : Nat) (hi : i + m = 6) (hm : 0 < m) (W : World) : (Instr.sliceAt 24 (.pointer (some ⟨b, 0, none⟩)) (some (.int .i64 (i : Int))) none none).run Try.prog W = .ok (.slice (some ⟨b, i, none⟩) m m) W := by
  rw [run_sliceAt_array_l W _ _ (by kernel_rfl) .i64 (i : Int) (by omega) (by rw [lenW]; omega), elemW, sizeU, lenW]
  have e : (i : Int).toNat = i := by simp
  have e2 : 6 - i = m := by omega
  show Result.ok (slicedAt _ _ _ _ _) W = _
  rw [slicedAt, e, e2, if_neg (by omega), Addr.add_mid]
  simp
set_option maxHeartbeats 1000000 in
theorem end_yes (b : Nat) (W : Wd) (n : Nat) (hn : n < 6) (hz : restZ W n) (w : World) (h : IsR w b W n) : Calls Try.prog 23 #[.pointer (some ⟨b, 0, none⟩)] w fun e w' => e = .returned (.tuple #[]) ∧ Kb b w w' := by
  have IY : Hid (∀ w : World, Calls Try.prog 38 #[.bool true] w fun e w' => e = .returned (.tuple #[]) ∧ w' = w) := insist_yes
  have H : Hid (IsR w b W n) := h
  have HZ : Hid (restZ W n) := hz
  have lt0 := blk_lt h
  have c6 := h.next
  obtain ⟨m, hm⟩ : ∃ m, n + m = 6 := ⟨6 - n, by omega⟩
  have sl := sliceW b n m hm (by omega)
  have HM : Hid (n + m = 6) := hm
  have m6 : m ≤ 6 := by omega
  clear h hz hm
  go_enter Try.func23, Try.ntmps23
  go_wp2_with fail
  go_quiet (fail)
  go_wp2_with fail
  go_loopw [13] (fun x V => ∃ k : Nat, k ≤ m ∧ x = .int .i64 k ∧ Hid (IsR V b W n) ∧ Hid (Kb b w V)) (fun x _ => m - (intOf x).toNat)
  case atStart => exact ⟨0, by omega, rfl, H.out.kept (fun _ => rfl), kb_drewN _ _ _⟩
  case round =>
    obtain ⟨k, hk, rfl, hR, hK⟩ := hrel
    by_cases hlt : k < m
    · have hd : decide ((k : Int) < (m : Int)) = true := by simp; omega
      have c0 := hR.out.cell (n + k) (by have := HM.out; omega)
      rw [HZ.out (n + k) (by omega) (by have := HM.out; omega)] at c0
      have ltw : b < wr.heap.size := blk_lt hR.out
      go_wp2_with fail
      refine (IY.out _).mono ?_
      rintro e u8 ⟨rfl, hu⟩
      have hu2 := hu.symm
      subst hu2
      go_wp2_with fail
      go_roundw
      case rel => exact ⟨k + 1, by omega, by go_num, hR, hK⟩
      case measure => simp [intOf]; omega
    · obtain rfl : k = m := by omega
      have hd : decide ((k : Int) < (k : Int)) = false := by simp
      go_wp2_with fail
      go_returns
      exact ⟨rfl, hK.out⟩
set_option maxHeartbeats 1000000 in
theorem end_no (b : Nat) (W : Wd) (hw : W.wf) (n : Nat) (hn : n < 6) (hz : ¬ restZ W n) (w : World) (h : IsR w b W n) : Calls Try.prog 23 #[.pointer (some ⟨b, 0, none⟩)] w fun e w' => e = .panicked [refv] ∧ Kb b w w' := by
  have IY : Hid (∀ w : World, Calls Try.prog 38 #[.bool true] w fun e w' => e = .returned (.tuple #[]) ∧ w' = w) := insist_yes
  have IN : Hid (∀ w : World, Calls Try.prog 38 #[.bool false] w fun e w' => e = .panicked [refv] ∧ w' = w) := insist_no
  have H : Hid (IsR w b W n) := h
  have HZ : Hid (¬ restZ W n) := hz
  have lt0 := blk_lt h
  have c6 := h.next
  obtain ⟨m, hm⟩ : ∃ m, n + m = 6 := ⟨6 - n, by omega⟩
  have sl := sliceW b n m hm (by omega)
  have HM : Hid (n + m = 6) := hm
  have m6 : m ≤ 6 := by omega
  clear h hz hm hw
  go_enter Try.func23, Try.ntmps23
  go_wp2_with fail
  go_quiet (fail)
  go_wp2_with fail
  go_loopw [13] (fun x V => ∃ k : Nat, k ≤ m ∧ x = .int .i64 k ∧ Hid (∀ j, j < k → W.at (n + j) = 0) ∧ Hid (IsR V b W n) ∧ Hid (Kb b w V)) (fun x _ => m - (intOf x).toNat)
  case atStart => exact ⟨0, by omega, rfl, fun j hj => absurd hj (Nat.not_lt_zero _), H.out.kept (fun _ => rfl), kb_drewN _ _ _⟩
  case round =>
    obtain ⟨k, hk, rfl, hj, hR, hK⟩ := hrel
    by_cases hlt : k < m
    · have hd : decide ((k : Int) < (m : Int)) = true := by simp; omega
      have c0 := hR.out.cell (n + k) (by have := HM.out; omega)
      have ltw : b < wr.heap.size := blk_lt hR.out
      by_cases z : W.at (n + k) = 0
      · rw [z] at c0
        have HJ : Hid (∀ j, j < k + 1 → W.at (n + j) = 0) := fun j h => by
          rcases Nat.lt_succ_iff_lt_or_eq.1 h with q | rfl
          · exact hj.out j q
          · exact z
        clear z
        go_wp2_with fail
        refine (IY.out _).mono ?_
        rintro e u8 ⟨rfl, hu⟩
        have hu2 := hu.symm
        subst hu2
        go_wp2_with fail
        go_roundw
        case rel => exact ⟨k + 1, by omega, by go_num, HJ, hR, hK⟩
        case measure => simp [intOf]; omega
      · generalize W.at (n + k) = x at c0 z
        have z2 : (x == 0) = false := by simp [z]
        go_wp2_with fail
        refine (IN.out _).mono ?_
        rintro e u8 ⟨rfl, hu⟩
        have hu2 := hu.symm
        subst hu2
        exact ⟨rfl, rfl, hK.out⟩
    · exact absurd (fun i h1 h2 => by
        have := hj.out (i - n) (by have := HM.out; omega)
        rw [show n + (i - n) = i by omega] at this
        exact this) HZ.out
end Go.Proofs.Ytccbacjiiffheaa
