/- Containers: what is searched. -/
import Derived.Test.YtpfcpmhpekidkaaQ0
namespace Go.Proofs.Ytpfcpmhpekidkaa.Qu
open Go.ChangeShapes Go.WideShapes Go.ChangeAt Go.RowKit Go.Maps
set_option linter.unusedSimpArgs false
set_option linter.unusedVariables false

set_option maxHeartbeats 400000 in
theorem free_cl (l : Nd) (w : World) : Calls Try.prog 31 #[l.val] w fun e w' => e = .returned (.bool (!l.live)) ∧ Below w.heap.size w w' := by
  go_enter Try.func31, Try.ntmps31
  go_wp2
  go_returns
  exact ⟨rfl, Go.Joins.below_alloc1 _ _⟩
/-- the first place of a container that is asked for, or -1 -/
def IdxIs (T : Nat → Nd) (f : Nd → Bool) (r : Int) : Prop := (∃ i : Nat, i < 64 ∧ r = i ∧ f (T i) = true ∧ ∀ j, j < i → f (T j) = false) ∨ (r = -1 ∧ ∀ j, j < 64 → f (T j) = false)
set_option maxHeartbeats 1000000 in
theorem idx0 (b : Nat) (g : Nat) (T : Nat → Nd) (f : Nd → Bool) (C : World → Prop) (hC : Hid (∀ W W' : World, C W → Below W.heap.size W W' → C W')) (hen : ∀ (args : Array Value) (w : World), (callFunc g args).run Try.prog w = .ok (.enter g args) w)
    (hg : Hid (∀ (W : World) (l : Nd), C W → Calls Try.prog g #[l.val] W fun e W' => e = .returned (.bool (f l)) ∧ Below W.heap.size W W')) (w : World) (h : IsTree w b T) (hc : C w) :
    Calls Try.prog 30 #[.slice (some ⟨b, 0, none⟩) 64 64, .func (.func g) #[] #[]] w fun e w' => (∃ r, e = .returned (.int .i64 r) ∧ IdxIs T f r) ∧ Below w.heap.size w w' := by
  go_enter Try.func30, Try.ntmps30
  go_wp2_with fail
  go_loopw [8] (fun x W => ∃ k : Nat, k ≤ 64 ∧ x = .int .i64 k ∧ Hid (IsTree W b T) ∧ Hid (C W) ∧ Hid (Below w.heap.size w W) ∧ Hid (∀ j, j < k → f (T j) = false)) (fun x _ => 64 - (intOf x).toNat)
  case atStart => exact ⟨0, by omega, rfl, h, hc, Below.refl _ _, fun j hj => absurd hj (Nat.not_lt_zero _)⟩
  case round =>
    obtain ⟨k, hk, rfl, hT, hcw, hgr, hno⟩ := hrel
    by_cases hlt : k < 64
    · have hd : decide ((k : Int) < 64) = true := by simp; omega
      obtain ⟨l, hl⟩ : ∃ l, T k = l := ⟨_, rfl⟩
      have hT1 := hT.out
      have c0 : wr.cell? ⟨b, k * 5, none⟩ = some (.int .i64 l.par) := hT1.cell (k) (by omega) 0 _ (by rw [hl]; rfl) _ (by omega)
      have c1 : wr.cell? ⟨b, k * 5 + 1, none⟩ = some (.int .i64 l.quota) := hT1.cell (k) (by omega) 1 _ (by rw [hl]; rfl) _ (by omega)
      have c2 : wr.cell? ⟨b, k * 5 + 2, none⟩ = some (.int .i64 l.used) := hT1.cell (k) (by omega) 2 _ (by rw [hl]; rfl) _ (by omega)
      have c3 : wr.cell? ⟨b, k * 5 + 3, none⟩ = some (.int .i64 l.lent) := hT1.cell (k) (by omega) 3 _ (by rw [hl]; rfl) _ (by omega)
      have c4 : wr.cell? ⟨b, k * 5 + 4, none⟩ = some (.bool l.live) := hT1.cell (k) (by omega) 4 _ (by rw [hl]; rfl) _ (by omega)
      clear hT1
      have HL : Hid (T k = l) := hl
      clear hl
      go_wp2_with fail
      refine (hg.out _ l hcw.out).mono ?_
      rintro e u ⟨rfl, hb⟩
      have U1 : Hid (IsTree u b T) := hT.out.below hb
      have U2 : Hid (C u) := hC.out _ _ hcw.out hb
      have U3 : Hid (Below w.heap.size w u) := below_then hgr.out hb
      clear hb c0 c1 c2 c3 c4
      cases hf : f l
      · have hf' : Hid (∀ j, j < k + 1 → f (T j) = false) := fun j hj => by
          rcases Nat.lt_succ_iff_lt_or_eq.1 hj with c | rfl
          · exact hno.out j c
          · rw [HL.out]; exact hf
        go_wp2_with fail
        go_roundw
        case rel => exact ⟨k + 1, by omega, by go_num, U1, U2, U3, hf'⟩
        case measure => simp [intOf]; omega
      · go_wp2_with fail
        go_ret
        exact ⟨⟨_, rfl, Or.inl ⟨k, hlt, rfl, by rw [HL.out]; exact hf, hno.out⟩⟩, U3.out⟩
    · obtain rfl : k = 64 := by omega
      go_wp2_with fail
      go_ret
      exact ⟨⟨_, rfl, Or.inr ⟨rfl, hno.out⟩⟩, hgr.out⟩
set_option maxHeartbeats 1000000 in
theorem idx1 (b : Nat) (g B0 : Nat) (T : Nat → Nd) (f : Nd → Bool) (C : World → Prop) (hC : Hid (∀ W W' : World, C W → Below W.heap.size W W' → C W')) (hen : ∀ (args : Array Value) (w : World), (callFunc g args).run Try.prog w = .ok (.enter g args) w)
    (hg : Hid (∀ (W : World) (l : Nd), C W → Calls Try.prog g #[l.val, .pointer (some ⟨B0, 0, none⟩)] W fun e W' => e = .returned (.bool (f l)) ∧ Below W.heap.size W W')) (w : World) (h : IsTree w b T) (hc : C w) :
    Calls Try.prog 30 #[.slice (some ⟨b, 0, none⟩) 64 64, .func (.func g) #[] #[.pointer (some ⟨B0, 0, none⟩)]] w fun e w' => (∃ r, e = .returned (.int .i64 r) ∧ IdxIs T f r) ∧ Below w.heap.size w w' := by
  go_enter Try.func30, Try.ntmps30
  go_wp2_with fail
  go_loopw [8] (fun x W => ∃ k : Nat, k ≤ 64 ∧ x = .int .i64 k ∧ Hid (IsTree W b T) ∧ Hid (C W) ∧ Hid (Below w.heap.size w W) ∧ Hid (∀ j, j < k → f (T j) = false)) (fun x _ => 64 - (intOf x).toNat)
  case atStart => exact ⟨0, by omega, rfl, h, hc, Below.refl _ _, fun j hj => absurd hj (Nat.not_lt_zero _)⟩
  case round =>
    obtain ⟨k, hk, rfl, hT, hcw, hgr, hno⟩ := hrel
    by_cases hlt : k < 64
    · have hd : decide ((k : Int) < 64) = true := by simp; omega
      obtain ⟨l, hl⟩ : ∃ l, T k = l := ⟨_, rfl⟩
      have hT1 := hT.out
      have c0 : wr.cell? ⟨b, k * 5, none⟩ = some (.int .i64 l.par) := hT1.cell (k) (by omega) 0 _ (by rw [hl]; rfl) _ (by omega)
      have c1 : wr.cell? ⟨b, k * 5 + 1, none⟩ = some (.int .i64 l.quota) := hT1.cell (k) (by omega) 1 _ (by rw [hl]; rfl) _ (by omega)
      have c2 : wr.cell? ⟨b, k * 5 + 2, none⟩ = some (.int .i64 l.used) := hT1.cell (k) (by omega) 2 _ (by rw [hl]; rfl) _ (by omega)
      have c3 : wr.cell? ⟨b, k * 5 + 3, none⟩ = some (.int .i64 l.lent) := hT1.cell (k) (by omega) 3 _ (by rw [hl]; rfl) _ (by omega)
      have c4 : wr.cell? ⟨b, k * 5 + 4, none⟩ = some (.bool l.live) := hT1.cell (k) (by omega) 4 _ (by rw [hl]; rfl) _ (by omega)
      clear hT1
      have HL : Hid (T k = l) := hl
      clear hl
      go_wp2_with fail
      refine (hg.out _ l hcw.out).mono ?_
      rintro e u ⟨rfl, hb⟩
      have U1 : Hid (IsTree u b T) := hT.out.below hb
      have U2 : Hid (C u) := hC.out _ _ hcw.out hb
      have U3 : Hid (Below w.heap.size w u) := below_then hgr.out hb
      clear hb c0 c1 c2 c3 c4
      cases hf : f l
      · have hf' : Hid (∀ j, j < k + 1 → f (T j) = false) := fun j hj => by
          rcases Nat.lt_succ_iff_lt_or_eq.1 hj with c | rfl
          · exact hno.out j c
          · rw [HL.out]; exact hf
        go_wp2_with fail
        go_roundw
        case rel => exact ⟨k + 1, by omega, by go_num, U1, U2, U3, hf'⟩
        case measure => simp [intOf]; omega
      · go_wp2_with fail
        go_ret
        exact ⟨⟨_, rfl, Or.inl ⟨k, hlt, rfl, by rw [HL.out]; exact hf, hno.out⟩⟩, U3.out⟩
    · obtain rfl : k = 64 := by omega
      go_wp2_with fail
      go_ret
      exact ⟨⟨_, rfl, Or.inr ⟨rfl, hno.out⟩⟩, hgr.out⟩
end Go.Proofs.Ytpfcpmhpekidkaa.Qu
