/- Containers: Get, Room. -/
import Derived.Test.YtpfcpmhpekidkaaQ1
namespace Go.Proofs.Ytpfcpmhpekidkaa.Qu
open Go.ChangeShapes Go.WideShapes Go.ChangeAt Go.RowKit Go.Maps
set_option linter.unusedSimpArgs false
set_option linter.unusedVariables false

theorem below_drew {n : Nat} {w W : World} (h : Below n w W) : Below n w W.drew := ⟨h.os, h.tape, h.output, h.size, h.block⟩
def getN (T : Nat → Nd) (i : Int) : Nd := if 0 ≤ i ∧ i < 64 then T i.toNat else Nd.zero
set_option maxHeartbeats 400000 in
theorem get_out (b : Nat) (i : Int) (hi : i < 0 ∨ 64 ≤ i) (w : World) :
    Calls Try.prog 38 #[.pointer (some ⟨b, 0, none⟩), .int .i64 i] w fun e w' => e = .returned (.tuple #[Nd.zero.val, .bool false]) ∧ Below w.heap.size w w' := by
  rcases hi with hi | hi
  · have e1 : decide (i < 0) = true := by simp [hi]
    go_enter Try.func38, Try.ntmps38
    go_wp2_with fail
    go_returns
    exact ⟨rfl, Go.Joins.below_alloc1 _ _⟩
  · have e1 : decide (i < 0) = false := by simp; omega
    have e2 : decide (64 ≤ i) = true := by simp [hi]
    go_enter Try.func38, Try.ntmps38
    go_wp2_with fail
    go_returns
    exact ⟨rfl, Go.Joins.below_alloc1 _ _⟩
set_option maxHeartbeats 1000000 in
theorem get_in (b : Nat) (T : Nat → Nd) (k : Nat) (hk : k < 64) (w : World) (h : IsTree w b T) :
    Calls Try.prog 38 #[.pointer (some ⟨b, 0, none⟩), .int .i64 k] w fun e w' => e = .returned (.tuple #[(T k).val, .bool (T k).live]) ∧ Below w.heap.size w w' := by
  have e1 : decide ((k : Int) < 0) = false := by simp
  have e2 : decide (64 ≤ (k : Int)) = false := by simp; omega
  have k0 : (0 : Int) ≤ (k : Int) := by omega
  have k6 : (k : Int) < 64 := by omega
  obtain ⟨l, hl⟩ : ∃ l, T k = l := ⟨_, rfl⟩
  have c0 : w.cell? ⟨b, k * 5, none⟩ = some (.int .i64 l.par) := h.cell (k) (by omega) 0 _ (by rw [hl]; rfl) _ (by omega)
  have c1 : w.cell? ⟨b, k * 5 + 1, none⟩ = some (.int .i64 l.quota) := h.cell (k) (by omega) 1 _ (by rw [hl]; rfl) _ (by omega)
  have c2 : w.cell? ⟨b, k * 5 + 2, none⟩ = some (.int .i64 l.used) := h.cell (k) (by omega) 2 _ (by rw [hl]; rfl) _ (by omega)
  have c3 : w.cell? ⟨b, k * 5 + 3, none⟩ = some (.int .i64 l.lent) := h.cell (k) (by omega) 3 _ (by rw [hl]; rfl) _ (by omega)
  have c4 : w.cell? ⟨b, k * 5 + 4, none⟩ = some (.bool l.live) := h.cell (k) (by omega) 4 _ (by rw [hl]; rfl) _ (by omega)
  have hb := h.2.2
  rw [hl]
  clear h hl
  go_enter Try.func38, Try.ntmps38
  go_wp2_with fail
  go_region
  all_goals (go_wp2_with fail; go_returns; exact ⟨rfl, below_drew (Go.Joins.below_alloc1 _ _)⟩)
theorem get_any (b : Nat) (T : Nat → Nd) (i : Int) (w : World) (h : IsTree w b T) :
    Calls Try.prog 38 #[.pointer (some ⟨b, 0, none⟩), .int .i64 i] w fun e w' => e = .returned (.tuple #[(getN T i).val, .bool (getN T i).live]) ∧ Below w.heap.size w w' := by
  unfold getN
  by_cases c : 0 ≤ i ∧ i < 64
  · obtain ⟨k, rfl⟩ : ∃ k : Nat, i = k := ⟨i.toNat, by omega⟩
    simp only [if_pos c, Int.toNat_natCast]
    exact get_in b T k (by omega) w h
  · simp only [if_neg c]
    exact get_out b i (by omega) w
def Nd.ok (l : Nd) : Prop := 0 ≤ l.quota ∧ l.quota ≤ 1048576 ∧ 0 ≤ l.used ∧ l.used ≤ 1048576 ∧ 0 ≤ l.lent ∧ l.lent ≤ 1048576
def OkT (T : Nat → Nd) : Prop := ∀ k, k < 64 → (T k).ok
theorem zero_ok : Nd.zero.ok := by unfold Nd.ok Nd.zero; simp
theorem get_ok (T : Nat → Nd) (h : OkT T) (i : Int) : (getN T i).ok := by
  unfold getN
  by_cases c : 0 ≤ i ∧ i < 64
  · rw [if_pos c]; exact h _ (by omega)
  · rw [if_neg c]; exact zero_ok
set_option maxHeartbeats 400000 in
theorem room_cl (l : Nd) (h : l.ok) (w : World) : Calls Try.prog 39 #[l.val] w fun e w' => e = .returned (.int .i64 l.room) ∧ Below w.heap.size w w' := by
  obtain ⟨p, q, u, n, v⟩ := l
  obtain ⟨h1, h2, h3, h4, h5, h6⟩ := h
  simp only at h1 h2 h3 h4 h5 h6
  go_enter Try.func39, Try.ntmps39
  go_wp2
  go_returns
  exact ⟨rfl, Go.Joins.below_alloc1 _ _⟩
set_option maxHeartbeats 400000 in
theorem room_any (b : Nat) (T : Nat → Nd) (hT : OkT T) (i : Int) (w : World) (h : IsTree w b T) :
    Calls Try.prog 18 #[.pointer (some ⟨b, 0, none⟩), .int .i64 i] w fun e w' => e = .returned (.int .i64 (getN T i).room) ∧ Below w.heap.size w w' := by
  have G : Hid (∀ w : World, IsTree w b T → Calls Try.prog 38 #[.pointer (some ⟨b, 0, none⟩), .int .i64 i] w fun e w' => e = .returned (.tuple #[(getN T i).val, .bool (getN T i).live]) ∧ Below w.heap.size w w') := fun w h => get_any b T i w h
  have R : Hid (∀ w : World, Calls Try.prog 39 #[(getN T i).val] w fun e w' => e = .returned (.int .i64 (getN T i).room) ∧ Below w.heap.size w w') := fun w => room_cl _ (get_ok T hT i) w
  generalize getN T i = l at G R ⊢
  obtain ⟨p, q, u, n, v⟩ := l
  generalize (Nd.room ⟨p, q, u, n, v⟩) = z at R ⊢
  have HT : Hid (IsTree w b T) := h
  clear h hT
  go_enter Try.func18, Try.ntmps18
  go_wp2_with fail
  refine (G.out _ HT.out).mono ?_
  rintro e u1 ⟨rfl, hb1⟩
  have B1 : Hid (Below w.heap.size w u1) := hb1
  clear hb1
  go_wp2_with fail
  refine (R.out _).mono ?_
  rintro e u2 ⟨rfl, hb2⟩
  have B2 : Hid (Below w.heap.size w u2) := below_then (below_new B1.out _) hb2
  clear hb2
  go_wp2_with fail
  go_ret
  exact ⟨rfl, B2.out⟩
/-- why a container can't have so many more -/
def mayN (T : Nat → Nd) (i n : Int) : Int := if (getN T i).live = false then 5 else if n < 0 then 1 else if (getN T i).room < n then 8 else 0
set_option maxHeartbeats 400000 in
theorem may_any (b : Nat) (T : Nat → Nd) (hT : OkT T) (i n : Int) (w : World) (h : IsTree w b T) :
    Calls Try.prog 29 #[.pointer (some ⟨b, 0, none⟩), .int .i64 i, .int .i64 n] w fun e w' => e = .returned (.int .i64 (mayN T i n)) ∧ Below w.heap.size w w' := by
  have G : Hid (∀ w : World, IsTree w b T → Calls Try.prog 38 #[.pointer (some ⟨b, 0, none⟩), .int .i64 i] w fun e w' => e = .returned (.tuple #[(getN T i).val, .bool (getN T i).live]) ∧ Below w.heap.size w w') := fun w h => get_any b T i w h
  have R : Hid (∀ w : World, Calls Try.prog 39 #[(getN T i).val] w fun e w' => e = .returned (.int .i64 (getN T i).room) ∧ Below w.heap.size w w') := fun w => room_cl _ (get_ok T hT i) w
  unfold mayN
  generalize getN T i = l at G R ⊢
  obtain ⟨p, q, u, y, v⟩ := l
  generalize (Nd.room ⟨p, q, u, y, v⟩) = z at R ⊢
  have HT : Hid (IsTree w b T) := h
  clear h hT
  cases v
  · go_enter Try.func29, Try.ntmps29
    go_wp2_with fail
    refine (G.out _ HT.out).mono ?_
    rintro e u1 ⟨rfl, hb1⟩
    have B1 : Hid (Below w.heap.size w u1) := hb1
    clear hb1
    go_wp2_with fail
    go_ret
    exact ⟨rfl, below_new B1.out _⟩
  · by_cases hn : n < 0
    · have e1 : decide (n < 0) = true := by simp [hn]
      go_enter Try.func29, Try.ntmps29
      go_wp2_with fail
      refine (G.out _ HT.out).mono ?_
      rintro e u1 ⟨rfl, hb1⟩
      have B1 : Hid (Below w.heap.size w u1) := hb1
      clear hb1
      go_wp2_with fail
      go_ret
      exact ⟨by simp [hn], below_new B1.out _⟩
    · have e1 : decide (n < 0) = false := by simp; omega
      by_cases hr : z < n
      · have e2 : decide (z < n) = true := by simp [hr]
        go_enter Try.func29, Try.ntmps29
        go_wp2_with fail
        refine (G.out _ HT.out).mono ?_
        rintro e u1 ⟨rfl, hb1⟩
        have B1 : Hid (Below w.heap.size w u1) := hb1
        clear hb1
        go_wp2_with fail
        refine (R.out _).mono ?_
        rintro e u2 ⟨rfl, hb2⟩
        have B2 : Hid (Below w.heap.size w u2) := below_then (below_new B1.out _) hb2
        clear hb2
        go_wp2_with fail
        go_ret
        exact ⟨by simp [hn, hr], B2.out⟩
      · have e2 : decide (z < n) = false := by simp; omega
        go_enter Try.func29, Try.ntmps29
        go_wp2_with fail
        refine (G.out _ HT.out).mono ?_
        rintro e u1 ⟨rfl, hb1⟩
        have B1 : Hid (Below w.heap.size w u1) := hb1
        clear hb1
        go_wp2_with fail
        refine (R.out _).mono ?_
        rintro e u2 ⟨rfl, hb2⟩
        have B2 : Hid (Below w.heap.size w u2) := below_then (below_new B1.out _) hb2
        clear hb2
        go_wp2_with fail
        go_ret
        exact ⟨by simp [hn, hr], B2.out⟩
end Go.Proofs.Ytpfcpmhpekidkaa.Qu
