/- Containers: Credit, children, End. -/
import Derived.Test.YtebmnnliaeollaaQ3
namespace Go.Proofs.Ytebmnnliaeollaa
open Go.ChangeShapes Go.WideShapes Go.ChangeAt Go.RowKit Go.Maps
set_option linter.unusedSimpArgs false
set_option linter.unusedVariables false

def creditN (T : Nat → Nd) (i n : Int) : Int := if (getN T i).live = false then 5 else if n < 0 then 1 else if (getN T i).used < n then 1 else 0
def creditT (T : Nat → Nd) (i n : Int) : Nat → Nd := if creditN T i n = 0 then putT T i.toNat ((T i.toNat).plus (-n)) else T
theorem credit_zero {T : Nat → Nd} {i n : Int} (h : creditN T i n = 0) : (getN T i).live = true ∧ 0 ≤ n ∧ n ≤ (getN T i).used := by
  unfold creditN at h
  by_cases a : (getN T i).live = false
  · rw [if_pos a] at h; omega
  · rw [if_neg a] at h
    by_cases c : n < 0
    · rw [if_pos c] at h; omega
    · rw [if_neg c] at h
      by_cases d : (getN T i).used < n
      · rw [if_pos d] at h; omega
      · exact ⟨by simpa using a, by omega, by omega⟩
set_option maxHeartbeats 1000000 in
theorem credit_any (b : Nat) (T : Nat → Nd) (hT : OkT T) (i n : Int) (w : World) (h : IsTree w b T) :
    Calls Try.prog 19 #[.pointer (some ⟨b, 0, none⟩), .int .i64 i, .int .i64 n] w fun e w' => e = .returned (.int .i64 (creditN T i n)) ∧ IsTree w' b (creditT T i n) ∧ w.grownBy w' (some b) := by
  have G : Hid (∀ w : World, IsTree w b T → Calls Try.prog 10 #[.pointer (some ⟨b, 0, none⟩), .int .i64 i] w fun e w' => e = .returned (.tuple #[(getN T i).val, .bool (getN T i).live]) ∧ Below w.heap.size w w') := fun w h => get_any b T i w h
  have HT : Hid (IsTree w b T) := h
  by_cases c : creditN T i n = 0
  · unfold creditT
    rw [if_pos c, c]
    obtain ⟨m1, m2, m3⟩ := credit_zero c
    obtain ⟨k, rfl, hk, hg⟩ := live_in m1
    rw [hg] at m3 m1 G
    have hok := hT k hk
    obtain ⟨l, hl⟩ : ∃ l, T k = l := ⟨_, rfl⟩
    rw [Int.toNat_natCast]
    rw [hl] at m1 m3 hok G ⊢
    have ho1 : 0 ≤ l.used := hok.2.2.1
    have ho2 : l.used ≤ 1048576 := hok.2.2.2.1
    have hb := h.2.2
    rw [m1] at G
    have e1 : decide (n < 0) = false := by simp; omega
    have e2 : decide (l.used < n) = false := by simp; omega
    clear h hok hg c
    have k0 : (0 : Int) ≤ (k : Int) := by omega
    have k6 : (k : Int) < 64 := by omega
    have HL : Hid (T k = l) := hl
    clear hl
    go_enter Try.func19, Try.ntmps19
    go_wp2_with fail
    refine (G.out _ HT.out).mono ?_
    rintro e u1 ⟨rfl, hb1⟩
    have B1 : Hid (Below w.heap.size w u1) := hb1
    have T1 : Hid (IsTree u1 b T) := HT.out.below hb1
    have lb : b < u1.heap.size := Nat.lt_of_lt_of_le hb hb1.size
    have c2 : u1.cell? ⟨b, k * 5 + 2, none⟩ = some (.int .i64 l.used) := T1.out.cell k hk 2 _ (by rw [HL.out]; rfl) _ rfl
    have f2 : u1.frozen? ⟨b, k * 5 + 2, none⟩ = false := T1.out.unfrozen _ (by omega)
    clear hb1
    go_wp2_with fail
    go_region
    all_goals (go_wp2_with fail; go_ret; exact ⟨rfl, ((T1.out.one k hk 2 _ (l.plus (-n)) (by rw [HL.out]; rfl) (by omega) _ rfl).below (Go.Joins.below_alloc1 _ _)).drew, grown_drew (grown_trans (grown_trans (grown_of_below B1.out _) (grown_setCell1 _ _ _ _)) (grown_alloc _ _ _))⟩)
  · unfold creditT
    rw [if_neg c]
    have KT := c
    unfold creditN at c KT ⊢
    generalize getN T i = l at G c ⊢
    obtain ⟨p, q, u, y, v⟩ := l
    clear h hT KT
    cases v
    · go_enter Try.func19, Try.ntmps19
      go_wp2_with fail
      refine (G.out _ HT.out).mono ?_
      rintro e u1 ⟨rfl, hb1⟩
      have B1 : Hid (Below w.heap.size w u1) := hb1
      clear hb1
      go_wp2_with fail
      go_ret
      exact ⟨rfl, HT.out.below (below_new B1.out _), grown_of_below (below_new B1.out _) _⟩
    · by_cases hn : n < 0
      · have e1 : decide (n < 0) = true := by simp [hn]
        go_enter Try.func19, Try.ntmps19
        go_wp2_with fail
        refine (G.out _ HT.out).mono ?_
        rintro e u1 ⟨rfl, hb1⟩
        have B1 : Hid (Below w.heap.size w u1) := hb1
        clear hb1
        go_wp2_with fail
        go_ret
        exact ⟨by simp [hn], HT.out.below (below_new B1.out _), grown_of_below (below_new B1.out _) _⟩
      · have e1 : decide (n < 0) = false := by simp; omega
        have hu : u < n := by
          simp only [hn, if_false] at c
          by_cases d : u < n
          · exact d
          · simp [d] at c
        have e2 : decide (u < n) = true := by simp [hu]
        clear c
        go_enter Try.func19, Try.ntmps19
        go_wp2_with fail
        refine (G.out _ HT.out).mono ?_
        rintro e u1 ⟨rfl, hb1⟩
        have B1 : Hid (Below w.heap.size w u1) := hb1
        clear hb1
        go_wp2_with fail
        go_ret
        exact ⟨by simp [hn, hu], HT.out.below (below_new B1.out _), grown_of_below (below_new B1.out _) _⟩
/-- the first place that is asked for, or -1 -/
def idxF (f : Nat → Bool) : Nat → Nat → Int
  | 0, _ => -1
  | n + 1, k => if f k then k else idxF f n (k + 1)
def idxN (T : Nat → Nd) (f : Nd → Bool) : Int := idxF (fun j => f (T j)) 64 0
theorem idxF_hit (f : Nat → Bool) : ∀ n k i, k ≤ i → i < k + n → f i = true → (∀ j, k ≤ j → j < i → f j = false) → idxF f n k = i
  | 0, k, i, h1, h2, _, _ => by omega
  | n + 1, k, i, h1, h2, h3, h4 => by
    unfold idxF
    by_cases c : k = i
    · subst c; rw [if_pos h3]
    · rw [if_neg (by rw [h4 k (Nat.le_refl _) (by omega)]; simp)]
      exact idxF_hit f n (k + 1) i (by omega) (by omega) h3 (fun j a c => h4 j (by omega) c)
theorem idxF_miss (f : Nat → Bool) : ∀ n k, (∀ j, k ≤ j → j < k + n → f j = false) → idxF f n k = -1
  | 0, k, _ => rfl
  | n + 1, k, h => by
    unfold idxF
    rw [if_neg (by rw [h k (Nat.le_refl _) (by omega)]; simp)]
    exact idxF_miss f n (k + 1) (fun j a c => h j (by omega) (by omega))
theorem idx_eq {T : Nat → Nd} {f : Nd → Bool} {r : Int} (h : IdxIs T f r) : r = idxN T f := by
  rcases h with ⟨i, h1, rfl, h2, h3⟩ | ⟨rfl, h1⟩
  · exact (idxF_hit _ 64 0 i (Nat.zero_le _) (by omega) h2 (fun j _ a => h3 j a)).symm
  · exact (idxF_miss _ 64 0 (fun j _ a => h1 j (by omega))).symm
theorem idxF_case (f : Nat → Bool) : ∀ n k, (∃ i, k ≤ i ∧ i < k + n ∧ idxF f n k = i ∧ f i = true ∧ ∀ j, k ≤ j → j < i → f j = false) ∨ (idxF f n k = -1 ∧ ∀ j, k ≤ j → j < k + n → f j = false)
  | 0, k => Or.inr ⟨rfl, fun j a c => by omega⟩
  | n + 1, k => by
    unfold idxF
    by_cases c : f k = true
    · exact Or.inl ⟨k, Nat.le_refl _, by omega, by rw [if_pos c], c, fun j a d => by omega⟩
    · rw [if_neg c]
      rcases idxF_case f n (k + 1) with ⟨i, a1, a2, a3, a4, a5⟩ | ⟨a1, a2⟩
      · exact Or.inl ⟨i, by omega, by omega, a3, a4, fun j d e => by
          by_cases g : j = k
          · subst g; simpa using c
          · exact a5 j (by omega) e⟩
      · exact Or.inr ⟨a1, fun j d e => by
          by_cases g : j = k
          · subst g; simpa using c
          · exact a2 j (by omega) (by omega)⟩
theorem idx_is (T : Nat → Nd) (f : Nd → Bool) : IdxIs T f (idxN T f) := by
  rcases idxF_case (fun j => f (T j)) 64 0 with ⟨i, a1, a2, a3, a4, a5⟩ | ⟨a1, a2⟩
  · exact Or.inl ⟨i, by omega, a3, a4, fun j h => a5 j (Nat.zero_le _) h⟩
  · exact Or.inr ⟨a1, fun j h => a2 j (Nat.zero_le _) (by omega)⟩
/-- has a container children? -/
def hasN (T : Nat → Nd) (i : Int) : Bool := decide (0 ≤ idxN T (fun l => l.live && (l.par == i)))
set_option maxHeartbeats 1000000 in
theorem has_any (b : Nat) (T : Nat → Nd) (i : Int) (w : World) (h : IsTree w b T) :
    Calls Try.prog 26 #[.pointer (some ⟨b, 0, none⟩), .int .i64 i] w fun e w' => e = .returned (.bool (hasN T i)) ∧ Below w.heap.size w w' := by
  have hmf : ∀ (fn : Fn) (first cap : Array Value) (w : World), (Instr.makeFunc fn first cap).run Try.prog w = .ok (.func fn first cap) w := fun _ _ _ _ => rfl
  have hb := h.2.2
  have D : Hid (∀ W : World, IsTree W b T → (W.cell? ⟨w.heap.size, 0, none⟩ = some (.int .i64 i) ∧ w.heap.size < W.heap.size) → Calls Try.prog 24 #[.slice (some ⟨b, 0, none⟩) 64 64, .func (.func 28) #[] #[.pointer (some ⟨w.heap.size, 0, none⟩)]] W fun e w' => e = .returned (.int .i64 (idxN T (fun l => l.live && (l.par == i)))) ∧ Below W.heap.size W w') := fun W hT hc =>
    (idx1 b 28 w.heap.size T (fun l => l.live && (l.par == i)) (fun W => W.cell? ⟨w.heap.size, 0, none⟩ = some (.int .i64 i) ∧ w.heap.size < W.heap.size)
      (fun W W' c hg => ⟨(hg.cell (p := ⟨w.heap.size, 0, none⟩) c.2).trans c.1, Nat.lt_of_lt_of_le c.2 hg.size⟩)
      (fun args w => by kernel_rfl)
      (fun W l c => child_cl l _ i W c.1 c.2) W hT hc).mono fun e w' ⟨⟨r, h1, h2⟩, h3⟩ => ⟨by rw [h1, idx_eq h2], h3⟩
  unfold hasN
  generalize idxN T (fun l => l.live && (l.par == i)) = r at D ⊢
  have CC : Hid (∀ W : World, IsTree W b T → (W.cell? ⟨w.heap.size, 0, none⟩ = some (.int .i64 i) ∧ w.heap.size < W.heap.size) → Calls Try.prog 27 #[.slice (some ⟨b, 0, none⟩) 64 64, .func (.func 28) #[] #[.pointer (some ⟨w.heap.size, 0, none⟩)]] W fun e w' => e = .returned (.bool (decide (0 ≤ r))) ∧ Below W.heap.size W w') := fun W hT hc => by
    have HT : Hid (IsTree W b T) := hT
    have HC : Hid (W.cell? ⟨w.heap.size, 0, none⟩ = some (.int .i64 i) ∧ w.heap.size < W.heap.size) := hc
    clear hT hc
    go_enter Try.func27, Try.ntmps27
    go_wp2_with fail
    refine (D.out _ HT.out HC.out).mono ?_
    rintro e u1 ⟨rfl, hb1⟩
    go_wp2_with fail
    go_ret
    exact ⟨rfl, hb1⟩
  have HT : Hid (IsTree w b T) := h
  clear h D
  go_enter Try.func26, Try.ntmps26
  go_wp2_with fail
  refine (CC.out _ (HT.out.below (Go.Joins.below_alloc1 _ _)) ⟨by simp, by simp⟩).mono ?_
  rintro e u1 ⟨rfl, hb1⟩
  go_wp2_with fail
  go_ret
  exact ⟨rfl, below_then (Go.Joins.below_alloc1 _ _) hb1⟩
end Go.Proofs.Ytebmnnliaeollaa
