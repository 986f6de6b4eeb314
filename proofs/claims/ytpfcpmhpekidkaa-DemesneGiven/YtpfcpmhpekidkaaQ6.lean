/- Containers: New; the laws awake. -/
import Derived.Test.YtpfcpmhpekidkaaQ5
namespace Go.Proofs.Ytpfcpmhpekidkaa.Qu
open Go.ChangeShapes Go.WideShapes Go.ChangeAt Go.RowKit Go.Maps
set_option linter.unusedSimpArgs false
set_option linter.unusedVariables false

/-- the cells of n containers in a row -/
def flatT (T : Nat → Nd) : Nat → List Value
  | 0 => []
  | n + 1 => flatT T n ++ (T n).enc
theorem flat_len (T : Nat → Nd) : ∀ n, (flatT T n).length = n * 5
  | 0 => rfl
  | n + 1 => by rw [flatT, List.length_append, flat_len T n, enc_len]; omega
theorem flat_get (T : Nat → Nd) : ∀ n q r, q < n → r < 5 → (flatT T n)[q * 5 + r]? = (T q).enc[r]?
  | 0, q, r, h, _ => absurd h (Nat.not_lt_zero _)
  | n + 1, q, r, h, hr => by
    rw [flatT]
    by_cases c : q = n
    · subst c
      rw [List.getElem?_append_right (by rw [flat_len]; omega), flat_len]
      congr 1
      omega
    · rw [List.getElem?_append_left (by rw [flat_len]; omega)]
      exact flat_get T n q r (by omega) hr
def zT : Nat → Nd := fun _ => Nd.zero
set_option maxRecDepth 10000 in
theorem zeroT : ∃ Zs : Array Value, (∀ W : World, (zeroValue 74).run Try.prog W = .ok (.agg Zs) W) ∧ Zs.size = 320 ∧ ∀ q r, q < 64 → r < 5 → Zs[q * 5 + r]? = Nd.zero.enc[r]? :=
  ⟨(flatT zT 64).toArray, fun W => by kernel_rfl, by rw [List.size_toArray, flat_len], fun q r h1 h2 => by rw [List.getElem?_toArray]; exact flat_get zT 64 q r h1 h2⟩
theorem IsTree.madeT (w : World) (Zs : Array Value) (T : Nat → Nd) (hs : Zs.size = 320) (hz : ∀ q r, q < 64 → r < 5 → Zs[q * 5 + r]? = (T q).enc[r]?) : IsTree (w.alloc (.cells Zs 74)) w.heap.size T := by
  refine ⟨fun i hi j v hv => ?_, ?_, by simp⟩
  · have hj : j < 5 := (List.getElem?_eq_some_iff.1 hv).1
    exact (Go.Joins.cell_of_block (own1 w _) _).trans ((hz i j hi hj).trans hv)
  · have := there_block (own1 w (.cells Zs 74))
    rwa [hs] at this
def rootT (q : Int) : Nat → Nd := putT zT 0 ⟨-1, q, 0, 0, true⟩
theorem root_ok (q : Int) (h0 : 0 ≤ q) (h1 : q ≤ 1048576) : OkT (rootT q) := by
  intro k hk
  unfold rootT putT zT
  by_cases c : k = 0
  · rw [if_pos c]; refine ⟨h0, h1, ?_, ?_, ?_, ?_⟩ <;> simp
  · rw [if_neg c]; exact zero_ok
set_option maxHeartbeats 1000000 in
theorem new_ok (q : Int) (h0 : 0 ≤ q) (h1 : q ≤ 1048576) (w : World) :
    Calls Try.prog 12 #[.int .i64 q] w fun e w' => e = .returned (.tuple #[.pointer (some ⟨w.heap.size, 0, none⟩), .int .i64 0]) ∧ Own w w' w.heap.size (rootT q) := by
  obtain ⟨Zs, hz, hs, hzz⟩ := zeroT
  have e1 : decide (q < 0) = false := by simp; omega
  have e2 : decide (1048576 < q) = false := by simp; omega
  have HZ : Hid (∀ q r, q < 64 → r < 5 → Zs[q * 5 + r]? = Nd.zero.enc[r]?) := hzz
  clear hzz
  go_enter Try.func12, Try.ntmps12
  go_wp2_with fail
  go_returns
  refine ⟨rfl, IsTree.madeT w _ (rootT q) (by simp [hs]) ?_, Go.Joins.below_alloc1 _ _, Nat.le_refl _⟩
  intro j r hj hr
  by_cases c : j = 0
  · subst c
    rw [show rootT q 0 = ⟨-1, q, 0, 0, true⟩ from put_same _ _ _]
    rcases (show r = 0 ∨ r = 1 ∨ r = 2 ∨ r = 3 ∨ r = 4 by omega) with rfl | rfl | rfl | rfl | rfl <;> simp [Array.getElem?_setIfInBounds, hs, Nd.enc]
  · rw [show rootT q j = Nd.zero from put_other _ _ _ _ c, ← HZ.out j r hj hr]
    have n0 : ¬ (0 = j * 5 + r) := by omega
    have n1 : ¬ (1 = j * 5 + r) := by omega
    have n2 : ¬ (2 = j * 5 + r) := by omega
    have n3 : ¬ (3 = j * 5 + r) := by omega
    have n4 : ¬ (4 = j * 5 + r) := by omega
    simp only [Array.getElem?_setIfInBounds, n0, n1, n2, n3, n4, if_false]
set_option maxHeartbeats 1000000 in
theorem new_bad (q : Int) (h : q < 0 ∨ 1048576 < q) (w : World) :
    Calls Try.prog 12 #[.int .i64 q] w fun e w' => e = .returned (.tuple #[.pointer none, .int .i64 1]) ∧ Below w.heap.size w w' := by
  rcases h with h | h
  · have e1 : decide (q < 0) = true := by simp [h]
    go_enter Try.func12, Try.ntmps12
    go_wp2_with fail
    go_returns
    exact ⟨rfl, Below.refl _ _⟩
  · have e1 : decide (q < 0) = false := by simp; omega
    have e2 : decide (1048576 < q) = true := by simp [h]
    go_enter Try.func12, Try.ntmps12
    go_wp2_with fail
    go_returns
    exact ⟨rfl, Below.refl _ _⟩
end Go.Proofs.Ytpfcpmhpekidkaa.Qu
