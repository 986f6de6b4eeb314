/- Grants: there, process, ownPage, Get. -/
import Derived.Test.YtenfdcjnfgjilaaS0
namespace Go.Proofs.Ytenfdcjnfgjilaa
open Go.ChangeShapes Go.WideShapes Go.ChangeAt Go.RowKit Go.Maps
set_option linter.unusedSimpArgs false
set_option linter.unusedVariables false

set_option maxHeartbeats 400000 in
theorem there_any (l : Gr) (w : World) : Calls Try.prog 27 #[l.val] w fun e w' => e = .returned (.bool l.is) ∧ w' = w.alloc (.cells l.enc.toArray 24) := by
  obtain ⟨f, p, d, v, k, a⟩ := l
  unfold Gr.is Gr.enc
  simp only
  go_enter Try.func27, Try.ntmps27
  go_wp2
  go_returns
  exact ⟨rfl, rfl⟩
def isProc (p : Int) : Bool := decide (0 ≤ p) && decide (p < 16)
def isPage (p : Int) : Bool := decide (0 ≤ p) && decide (p < 34359738368)
set_option maxHeartbeats 400000 in
theorem process_any (p : Int) (w : World) : Calls Try.prog 28 #[.int .i64 p] w fun e w' => e = .returned (.bool (isProc p)) ∧ w' = w := by
  unfold isProc
  by_cases c : 0 ≤ p
  · have e1 : decide (0 ≤ p) = true := by simp [c]
    go_enter Try.func28, Try.ntmps28
    go_wp2
    go_returns
    exact ⟨by simp [c], rfl⟩
  · have e1 : decide (0 ≤ p) = false := by simp [c]
    go_enter Try.func28, Try.ntmps28
    go_wp2
    go_returns
    exact ⟨by simp [c], rfl⟩
set_option maxHeartbeats 400000 in
theorem ownPage_any (p : Int) (w : World) : Calls Try.prog 29 #[.int .i64 p] w fun e w' => e = .returned (.bool (isPage p)) ∧ w' = w := by
  unfold isPage
  by_cases c : 0 ≤ p
  · have e1 : decide (0 ≤ p) = true := by simp [c]
    go_enter Try.func29, Try.ntmps29
    go_wp2
    go_returns
    exact ⟨by simp [c], rfl⟩
  · have e1 : decide (0 ≤ p) = false := by simp [c]
    go_enter Try.func29, Try.ntmps29
    go_wp2
    go_returns
    exact ⟨by simp [c], rfl⟩
set_option maxHeartbeats 400000 in
theorem get_out (b : Nat) (i : Int) (hi : i < 0 ∨ 256 ≤ i) (w : World) :
    Calls Try.prog 14 #[.pointer (some ⟨b, 0, none⟩), .int .i64 i] w fun e w' => e = .returned (.tuple #[Gr.zero.val, .bool false]) ∧ Below w.heap.size w w' := by
  rcases hi with hi | hi
  · have e1 : decide (i < 0) = true := by simp [hi]
    go_enter Try.func14, Try.ntmps14
    go_wp2_with fail
    go_returns
    exact ⟨rfl, Go.Joins.below_alloc1 _ _⟩
  · have e1 : decide (i < 0) = false := by simp; omega
    have e2 : decide (256 ≤ i) = true := by simp [hi]
    go_enter Try.func14, Try.ntmps14
    go_wp2_with fail
    go_returns
    exact ⟨rfl, Go.Joins.below_alloc1 _ _⟩
set_option maxHeartbeats 1000000 in
theorem get_in (b : Nat) (T : Nat → Gr) (k : Nat) (hk : k < 256) (w : World) (h : IsTab w b T) :
    Calls Try.prog 14 #[.pointer (some ⟨b, 0, none⟩), .int .i64 k] w fun e w' => e = .returned (.tuple #[(T k).val, .bool (T k).is]) ∧ Below w.heap.size w w' := by
  have e1 : decide ((k : Int) < 0) = false := by simp
  have e2 : decide (256 ≤ (k : Int)) = false := by simp; omega
  have k0 : (0 : Int) ≤ (k : Int) := by omega
  have k6 : (k : Int) < 256 := by omega
  obtain ⟨l, hl⟩ : ∃ l, T k = l := ⟨_, rfl⟩
  have c0 : w.cell? ⟨b, k * 6, none⟩ = some (.int .i64 l.fr) := h.cell (k) (by omega) 0 _ (by rw [hl]; rfl) _ (by omega)
  have c1 : w.cell? ⟨b, k * 6 + 1, none⟩ = some (.int .i64 l.pg) := h.cell (k) (by omega) 1 _ (by rw [hl]; rfl) _ (by omega)
  have c2 : w.cell? ⟨b, k * 6 + 2, none⟩ = some (.int .i64 l.dst) := h.cell (k) (by omega) 2 _ (by rw [hl]; rfl) _ (by omega)
  have c3 : w.cell? ⟨b, k * 6 + 3, none⟩ = some (.bool l.wr) := h.cell (k) (by omega) 3 _ (by rw [hl]; rfl) _ (by omega)
  have c4 : w.cell? ⟨b, k * 6 + 4, none⟩ = some (.bool l.tk) := h.cell (k) (by omega) 4 _ (by rw [hl]; rfl) _ (by omega)
  have c5 : w.cell? ⟨b, k * 6 + 5, none⟩ = some (.int .i64 l.att) := h.cell (k) (by omega) 5 _ (by rw [hl]; rfl) _ (by omega)
  have hb := h.2.2
  rw [hl]
  have TH : Hid (∀ W : World, Calls Try.prog 27 #[l.val] W fun e w' => e = .returned (.bool l.is) ∧ w' = W.alloc (.cells l.enc.toArray 24)) := fun W => there_any l W
  clear h hl
  obtain ⟨f, p, d, v, q, a⟩ := l
  simp only [Gr.enc] at TH
  generalize Gr.is ⟨f, p, d, v, q, a⟩ = iz at TH ⊢
  simp only at c0 c1 c2 c3 c4 c5
  go_enter Try.func14, Try.ntmps14
  go_wp2_with fail
  go_region_with (refine (TH.out _).mono ?_; rintro e u1 ⟨rfl, rfl⟩)
  all_goals (go_wp2_with fail; go_returns; exact ⟨rfl, below_drew (below_new (below_new (Go.Joins.below_alloc1 _ _) _) _)⟩)
theorem get_any (b : Nat) (T : Nat → Gr) (i : Int) (w : World) (h : IsTab w b T) :
    Calls Try.prog 14 #[.pointer (some ⟨b, 0, none⟩), .int .i64 i] w fun e w' => e = .returned (.tuple #[(getG T i).val, .bool (getG T i).is]) ∧ Below w.heap.size w w' := by
  unfold getG
  by_cases c : 0 ≤ i ∧ i < 256
  · obtain ⟨k, rfl⟩ : ∃ k : Nat, i = k := ⟨i.toNat, by omega⟩
    simp only [if_pos c, Int.toNat_natCast]
    exact get_in b T k (by omega) w h
  · simp only [if_neg c]
    exact get_out b i (by omega) w
end Go.Proofs.Ytenfdcjnfgjilaa
