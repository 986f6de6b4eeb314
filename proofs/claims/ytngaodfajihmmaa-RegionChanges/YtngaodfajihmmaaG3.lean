/- Regions: good lists. -/
import Derived.Test.YtngaodfajihmmaaG1
namespace Go.Proofs.Ytngaodfajihmmaa
open Go.ChangeShapes Go.WideShapes Go.ChangeAt Go.RowKit Go.Maps
set_option linter.unusedSimpArgs false
set_option linter.unusedVariables false

def endAt (L : List Rg) : Nat → Int
  | 0 => 0
  | i + 1 => (L.getD i Rg.zero).to
def okR (e : Int) (r : Rg) : Bool := !(decide (r.fr < e)) && (decide (r.fr < r.to) && decide (r.to ≤ 34359738368))
def jnAt (L : List Rg) : Nat → Bool
  | 0 => false
  | i + 1 => (L.getD i Rg.zero).joins (L.getD (i + 1) Rg.zero)
def okAt (L : List Rg) (i : Nat) : Bool := okR (endAt L i) (L.getD i Rg.zero) && !(jnAt L i)
def allB (f : Nat → Bool) : Nat → Bool
  | 0 => true
  | n + 1 => allB f n && f n
theorem allB_iff (f : Nat → Bool) : ∀ n, allB f n = true ↔ ∀ i, i < n → f i = true
  | 0 => ⟨fun _ i hi => absurd hi (Nat.not_lt_zero _), fun _ => rfl⟩
  | n + 1 => by
    unfold allB
    rw [Bool.and_eq_true, allB_iff f n]
    constructor
    · rintro ⟨h1, h2⟩ i hi
      by_cases c : i = n
      · subst c; exact h2
      · exact h1 i (by omega)
    · intro h; exact ⟨fun i hi => h i (by omega), h n (by omega)⟩
theorem allB_no (f : Nat → Bool) (n i : Nat) (hi : i < n) (h : f i = false) : allB f n = false := by
  cases c : allB f n
  · rfl
  · have := (allB_iff f n).1 c i hi; rw [h] at this; cases this
def goodB (L : List Rg) : Bool := decide (L.length ≤ 64) && allB (okAt L) L.length
set_option maxHeartbeats 2000000 in
theorem good_any (base : Nat) (p : Option Addr) (c : Nat) (L : List Rg) (hL : L.length ≤ 100) (w : World) (h : IsL w base p L) :
    Calls Try.prog 21 #[.slice p L.length c] w fun e w' => e = .returned (.bool (goodB L)) ∧ Below w.heap.size w w' := by
  obtain ⟨z, hz⟩ : ∃ z, goodB L = z := ⟨_, rfl⟩
  rw [hz]
  have HZ : Hid (goodB L = z) := hz
  have HI : Hid (IsL w base p L) := h
  have MK : Hid (∀ (a b : Rg) (W : World), Calls Try.prog 34 #[a.val, b.val] W fun e w' => e = .returned (.bool (a.joins b)) ∧ Below W.heap.size W w') := make_any
  clear hz h
  by_cases big : 64 < L.length
  · have hd0 : decide (64 < (L.length : Int)) = true := by simp; omega
    obtain rfl : z = false := by
      rw [← HZ.out]; unfold goodB
      rw [show decide (L.length ≤ 64) = false by simp; omega]; rfl
    go_enter Try.func21, Try.ntmps21
    go_wp2_with fail
    go_ret
    exact ⟨rfl, Below.refl _ _⟩
  have hd0 : decide (64 < (L.length : Int)) = false := by simp; omega
  have ZA : Hid (z = allB (okAt L) L.length) := by
    show _ = _
    rw [← HZ.out]; unfold goodB
    rw [show decide (L.length ≤ 64) = true by simp; omega]; rfl
  clear HZ
  go_enter Try.func21, Try.ntmps21
  go_wp2_with fail
  go_loopw [3, 11] (fun en x W => ∃ (m : Nat) (e : Int), m ≤ L.length ∧ en = .int .i64 e ∧ x = .int .i64 m ∧ Hid (e = endAt L m) ∧ Hid (∀ j, j < m → okAt L j = true) ∧ Hid (IsL W base p L) ∧ Hid (Below w.heap.size w W)) (fun _ x _ => L.length - (intOf x).toNat)
  case atStart => exact ⟨0, 0, by omega, rfl, rfl, rfl, fun j hj => absurd hj (Nat.not_lt_zero _), HI, Below.refl _ _⟩
  case round =>
    obtain ⟨m, e, hm, rfl, rfl, hE, hG, hI, hb⟩ := hrel
    by_cases hlm : m < L.length
    · have hd : decide ((m : Int) < (L.length : Int)) = true := by simp; omega
      obtain ⟨g, rfl, g1, g2, gc⟩ := hI.out m hlm
      have NO : Hid (okAt L m = false → z = false) := fun h => by rw [ZA.out]; exact allB_no _ _ m hlm h
      have YES : Hid (okAt L m = true → ∀ j, j < m + 1 → okAt L j = true) := fun h j hj => by
        by_cases c : j = m
        · subst c; exact h
        · exact hG.out j (by omega)
      have OK : Hid (okAt L m = (okR e (L.getD m Rg.zero) && !(jnAt L m))) := by show _ = _; unfold okAt; rw [hE.out]
      have EN : Hid (endAt L (m + 1) = (L.getD m Rg.zero).to) := rfl
      have JN : Hid (∀ n, m = n + 1 → jnAt L m = (L.getD n Rg.zero).joins (L.getD m Rg.zero)) := fun n e => by subst e; rfl
      have J0 : Hid (m = 0 → jnAt L m = false) := fun e => by subst e; rfl
      generalize L.getD m Rg.zero = rr at gc OK EN JN
      obtain ⟨r1, r2, r3, r4, r5, r6⟩ := rr
      have y0 : wr.cell? ⟨g, m * 6, none⟩ = some (.int .i64 r1) := gc 0 _ rfl
      have y1 : wr.cell? ⟨g, m * 6 + 1, none⟩ = some (.int .i64 r2) := gc 1 _ rfl
      have y2 : wr.cell? ⟨g, m * 6 + 2, none⟩ = some (.bool r3) := gc 2 _ rfl
      have y3 : wr.cell? ⟨g, m * 6 + 3, none⟩ = some (.bool r4) := gc 3 _ rfl
      have y4 : wr.cell? ⟨g, m * 6 + 4, none⟩ = some (.bool r5) := gc 4 _ rfl
      have y5 : wr.cell? ⟨g, m * 6 + 5, none⟩ = some (.int .i64 r6) := gc 5 _ rfl
      clear gc
      unfold okR at OK
      simp only at OK EN
      generalize jnAt L m = jn at OK JN J0
      by_cases c1 : r1 < e
      · have d1 : decide (r1 < e) = true := by simp [c1]
        obtain rfl : z = false := NO.out (by rw [OK.out]; simp [d1])
        clear OK NO YES JN J0 EN
        go_wp2_with fail
        go_ret
        exact ⟨rfl, below_new hb.out _⟩
      have d1 : decide (r1 < e) = false := by simp [c1]
      by_cases c2 : r1 < r2
      rotate_left
      · have d2 : decide (r2 ≤ r1) = true := by simp; omega
        obtain rfl : z = false := NO.out (by rw [OK.out]; simp [c2])
        clear OK NO YES JN J0 EN
        go_wp2_with fail
        go_ret
        exact ⟨rfl, below_new hb.out _⟩
      have d2 : decide (r2 ≤ r1) = false := by simp; omega
      by_cases c3 : r2 ≤ 34359738368
      rotate_left
      · have d3 : decide (34359738368 < r2) = true := by simp; omega
        obtain rfl : z = false := NO.out (by rw [OK.out]; simp [c3])
        clear OK NO YES JN J0 EN
        go_wp2_with fail
        go_ret
        exact ⟨rfl, below_new hb.out _⟩
      have d3 : decide (34359738368 < r2) = false := by simp; omega
      have OK2 : Hid (okAt L m = !jn) := by
        show _ = _
        rw [OK.out]; simp [c2, c3]; omega
      clear OK c1 c2 c3
      by_cases m0 : m = 0
      · have dm : decide (0 < (m : Int)) = false := by simp; omega
        have N2 := YES.out (by rw [OK2.out, J0.out m0]; rfl)
        have M0 : Hid (m = 0) := m0
        clear m0
        have N3 : Hid (∀ j, j < m + 1 → okAt L j = true) := N2
        clear N2 YES NO JN J0 OK2
        go_wp2_with fail
        refine wp_region_noPanic ?_
        refine wp_region_held_drew (S := fun c => c.cell? ⟨wr.heap.size, 1, none⟩ = some (.int .i64 r2)) (by kernel_rfl) ?_ (fun hHeld => ?_)
        · simp
        refine wpAnyH_take (i := 0) (oi := ⟨some 36, _, _, _, _, none⟩) (v := ?_) rfl (by kernel_rfl) (by kernel_rfl) (by kernel_rfl) (fun _ _ _ h => h) (Or.inl ⟨by rfl, ?_⟩) (by assumption) ?_
        rotate_left
        · intro w hSw; (try dsimp only at hSw); go_simp; (try with_reducible rfl)
        try simp only [Act.put, List.setIfInBounds_toArray, List.set_cons_zero, List.set_cons_succ]
        refine wpAnyH_take (i := 1) (oi := ⟨some 37, _, _, _, _, none⟩) (v := .bool false) rfl (by kernel_rfl) (by kernel_rfl) (by kernel_rfl) (fun _ _ _ h => h) (Or.inl ⟨by rfl, ?_⟩) (by assumption) ?_
        · intro w hSw; (try dsimp only at hSw); go_simp; (try simp); (try (have := M0.out; omega))
        try simp only [Act.put, List.setIfInBounds_toArray, List.set_cons_zero, List.set_cons_succ]
        refine wpAnyH_take (i := 2) (oi := ⟨some 38, _, _, _, _, none⟩) (v := ?_) rfl (by kernel_rfl) (by kernel_rfl) (by kernel_rfl) (fun _ _ _ h => h) (Or.inl ⟨by rfl, ?_⟩) (by assumption) ?_
        rotate_left
        · intro w hSw; (try dsimp only at hSw); go_simp; (try with_reducible rfl)
        try simp only [Act.put, List.setIfInBounds_toArray, List.set_cons_zero, List.set_cons_succ]
        refine wpAnyH_take (i := 3) (oi := ⟨some 39, _, _, _, _, some (2, true)⟩) (v := undef) rfl (by kernel_rfl) (by kernel_rfl) (by kernel_rfl) (fun _ _ _ h => h) (Or.inr ⟨by rfl, rfl⟩) (by assumption) ?_
        try simp only [Act.put, List.setIfInBounds_toArray, List.set_cons_zero, List.set_cons_succ]
        refine wpAnyH_take (i := 4) (oi := ⟨some 40, _, _, _, _, some (2, true)⟩) (v := undef) rfl (by kernel_rfl) (by kernel_rfl) (by kernel_rfl) (fun _ _ _ h => h) (Or.inr ⟨by rfl, rfl⟩) (by assumption) ?_
        try simp only [Act.put, List.setIfInBounds_toArray, List.set_cons_zero, List.set_cons_succ]
        refine wpAnyH_take (i := 5) (oi := ⟨some 41, _, _, _, _, some (2, true)⟩) (v := undef) rfl (by kernel_rfl) (by kernel_rfl) (by kernel_rfl) (fun _ _ _ h => h) (Or.inr ⟨by rfl, rfl⟩) (by assumption) ?_
        try simp only [Act.put, List.setIfInBounds_toArray, List.set_cons_zero, List.set_cons_succ]
        refine wpAnyH_take (i := 6) (oi := ⟨some 42, _, _, _, _, some (2, true)⟩) (v := undef) rfl (by kernel_rfl) (by kernel_rfl) (by kernel_rfl) (fun _ _ _ h => h) (Or.inr ⟨by rfl, rfl⟩) (by assumption) ?_
        try simp only [Act.put, List.setIfInBounds_toArray, List.set_cons_zero, List.set_cons_succ]
        refine wpAnyH_take (i := 7) (oi := ⟨some 43, _, _, _, _, some (2, true)⟩) (v := undef) rfl (by kernel_rfl) (by kernel_rfl) (by kernel_rfl) (fun _ _ _ h => h) (Or.inr ⟨by rfl, rfl⟩) (by assumption) ?_
        try simp only [Act.put, List.setIfInBounds_toArray, List.set_cons_zero, List.set_cons_succ]
        refine wpAnyH_take (i := 8) (oi := ⟨some 44, _, _, _, _, some (2, true)⟩) (v := undef) rfl (by kernel_rfl) (by kernel_rfl) (by kernel_rfl) (fun _ _ _ h => h) (Or.inr ⟨by rfl, rfl⟩) (by assumption) ?_
        try simp only [Act.put, List.setIfInBounds_toArray, List.set_cons_zero, List.set_cons_succ]
        refine wpAnyH_take (i := 9) (oi := ⟨some 45, _, _, _, _, some (2, true)⟩) (v := undef) rfl (by kernel_rfl) (by kernel_rfl) (by kernel_rfl) (fun _ _ _ h => h) (Or.inr ⟨by rfl, rfl⟩) (by assumption) ?_
        try simp only [Act.put, List.setIfInBounds_toArray, List.set_cons_zero, List.set_cons_succ]
        refine wpAnyH_take (i := 10) (oi := ⟨some 46, _, _, _, _, none⟩) (v := ?_) rfl (by kernel_rfl) (by kernel_rfl) (by kernel_rfl) (fun _ _ _ h => h) (Or.inl ⟨by rfl, ?_⟩) (by assumption) ?_
        rotate_left
        · intro w hSw; (try dsimp only at hSw); go_simp; (try with_reducible rfl)
        try simp only [Act.put, List.setIfInBounds_toArray, List.set_cons_zero, List.set_cons_succ]
        clear hHeld
        refine wpAnyH_done (by kernel_rfl) ?_ _
        refine NoPanic.normal ?_
        go_wp2_with fail
        go_roundw
        case rel => exact ⟨m + 1, r2, by omega, rfl, by go_num, EN.out.symm, N3, hI.out.below (below_drew (Go.Joins.below_alloc1 _ _)), below_drew (below_new hb.out _)⟩
        case measure => simp [intOf]; omega
      · have dm : decide (0 < (m : Int)) = true := by simp; omega
        obtain ⟨g', ge, _, g2', gc'⟩ := hI.out (m - 1) (by omega)
        obtain rfl : g' = g := by cases ge; rfl
        have jv := JN.out (m - 1) (by omega)
        generalize L.getD (m - 1) Rg.zero = pp at gc' jv
        obtain ⟨q1, q2, q3, q4, q5, q6⟩ := pp
        have x0 : wr.cell? ⟨g', (m - 1) * 6, none⟩ = some (.int .i64 q1) := gc' 0 _ rfl
        have x1 : wr.cell? ⟨g', (m - 1) * 6 + 1, none⟩ = some (.int .i64 q2) := gc' 1 _ rfl
        have x2 : wr.cell? ⟨g', (m - 1) * 6 + 2, none⟩ = some (.bool q3) := gc' 2 _ rfl
        have x3 : wr.cell? ⟨g', (m - 1) * 6 + 3, none⟩ = some (.bool q4) := gc' 3 _ rfl
        have x4 : wr.cell? ⟨g', (m - 1) * 6 + 4, none⟩ = some (.bool q5) := gc' 4 _ rfl
        have x5 : wr.cell? ⟨g', (m - 1) * 6 + 5, none⟩ = some (.int .i64 q6) := gc' 5 _ rfl
        clear gc' g1
        have MJ := MK.out ⟨q1, q2, q3, q4, q5, q6⟩ ⟨r1, r2, r3, r4, r5, r6⟩
        rw [← jv] at MJ
        have MJ' : Hid _ := MJ
        clear MJ jv JN J0
        go_wp2_with fail
        refine wp_region_noPanic ?_
        refine wp_region_held_drew (S := fun c => c.cell? ⟨wr.heap.size, 0, none⟩ = some (.int .i64 r1) ∧ c.cell? ⟨wr.heap.size, 1, none⟩ = some (.int .i64 r2) ∧ c.cell? ⟨wr.heap.size, 2, none⟩ = some (.bool r3) ∧ c.cell? ⟨wr.heap.size, 3, none⟩ = some (.bool r4) ∧ c.cell? ⟨wr.heap.size, 4, none⟩ = some (.bool r5) ∧ c.cell? ⟨wr.heap.size, 5, none⟩ = some (.int .i64 r6) ∧ c.cell? ⟨g', (m - 1) * 6, none⟩ = some (.int .i64 q1) ∧ c.cell? ⟨g', (m - 1) * 6 + 1, none⟩ = some (.int .i64 q2) ∧ c.cell? ⟨g', (m - 1) * 6 + 2, none⟩ = some (.bool q3) ∧ c.cell? ⟨g', (m - 1) * 6 + 3, none⟩ = some (.bool q4) ∧ c.cell? ⟨g', (m - 1) * 6 + 4, none⟩ = some (.bool q5) ∧ c.cell? ⟨g', (m - 1) * 6 + 5, none⟩ = some (.int .i64 q6)) (by kernel_rfl) ?_ (fun hHeld => ?_)
        · exact ⟨by simp, by simp, by simp, by simp, by simp, by simp, (World.cell?_alloc_lt _ _ _ (by exact g2')).trans x0, (World.cell?_alloc_lt _ _ _ (by exact g2')).trans x1, (World.cell?_alloc_lt _ _ _ (by exact g2')).trans x2, (World.cell?_alloc_lt _ _ _ (by exact g2')).trans x3, (World.cell?_alloc_lt _ _ _ (by exact g2')).trans x4, (World.cell?_alloc_lt _ _ _ (by exact g2')).trans x5⟩
        refine wpAnyH_take (i := 0) (oi := ⟨some 36, _, _, _, _, none⟩) (v := ?_) rfl (by kernel_rfl) (by kernel_rfl) (by kernel_rfl) (fun _ _ _ h => h) (Or.inl ⟨by rfl, ?_⟩) (by assumption) ?_
        rotate_left
        · intro w hSw; (try dsimp only at hSw); go_simp; (try with_reducible rfl)
        try simp only [Act.put, List.setIfInBounds_toArray, List.set_cons_zero, List.set_cons_succ]
        refine wpAnyH_take (i := 1) (oi := ⟨some 37, _, _, _, _, none⟩) (v := .bool true) rfl (by kernel_rfl) (by kernel_rfl) (by kernel_rfl) (fun _ _ _ h => h) (Or.inl ⟨by rfl, ?_⟩) (by assumption) ?_
        · intro w hSw; (try dsimp only at hSw); go_simp; (try simp); (try omega)
        try simp only [Act.put, List.setIfInBounds_toArray, List.set_cons_zero, List.set_cons_succ]
        refine wpAnyH_take (i := 2) (oi := ⟨some 38, _, _, _, _, none⟩) (v := ?_) rfl (by kernel_rfl) (by kernel_rfl) (by kernel_rfl) (fun _ _ _ h => h) (Or.inl ⟨by rfl, ?_⟩) (by assumption) ?_
        rotate_left
        · intro w hSw; (try dsimp only at hSw); go_simp; (try with_reducible rfl)
        try simp only [Act.put, List.setIfInBounds_toArray, List.set_cons_zero, List.set_cons_succ]
        refine wpAnyH_take (i := 3) (oi := ⟨some 39, _, _, _, _, some (2, true)⟩) (v := ?_) rfl (by kernel_rfl) (by kernel_rfl) (by kernel_rfl) (fun _ _ _ h => h) (Or.inl ⟨by rfl, ?_⟩) (by assumption) ?_
        rotate_left
        · intro w hSw; (try dsimp only at hSw); go_simp; (try with_reducible rfl)
        try simp only [Act.put, List.setIfInBounds_toArray, List.set_cons_zero, List.set_cons_succ]
        refine wpAnyH_take (i := 4) (oi := ⟨some 40, _, _, _, _, some (2, true)⟩) (v := ?_) rfl (by kernel_rfl) (by kernel_rfl) (by kernel_rfl) (fun _ _ _ h => h) (Or.inl ⟨by rfl, ?_⟩) (by assumption) ?_
        rotate_left
        · intro w hSw; (try dsimp only at hSw); go_simp; (try with_reducible rfl)
        try simp only [Act.put, List.setIfInBounds_toArray, List.set_cons_zero, List.set_cons_succ]
        refine wpAnyH_take (i := 5) (oi := ⟨some 41, _, _, _, _, some (2, true)⟩) (v := .int .i64 ((m : Int) - 1)) rfl (by kernel_rfl) (by kernel_rfl) (by kernel_rfl) (fun _ _ _ h => h) (Or.inl ⟨by rfl, ?_⟩) (by assumption) ?_
        · intro w hSw; (try dsimp only at hSw); go_simp; (try simp); (try (simp only [IntKind.wrap_i64])); (try omega)
        try simp only [Act.put, List.setIfInBounds_toArray, List.set_cons_zero, List.set_cons_succ]
        refine wpAnyH_take (i := 6) (oi := ⟨some 42, _, _, _, _, some (2, true)⟩) (v := (.pointer (some ⟨g', (m - 1) * 6, none⟩))) rfl (by kernel_rfl) (by kernel_rfl) (by kernel_rfl) (fun _ _ _ h => h) (Or.inl ⟨by rfl, ?_⟩) (by assumption) ?_
        · intro w hSw; (try dsimp only at hSw); go_simp; (try simp); (try omega)
        try simp only [Act.put, List.setIfInBounds_toArray, List.set_cons_zero, List.set_cons_succ]
        refine wpAnyH_take (i := 7) (oi := ⟨some 43, _, _, _, _, some (2, true)⟩) (v := .agg #[.int .i64 q1, .int .i64 q2, .bool q3, .bool q4, .bool q5, .int .i64 q6]) rfl (by kernel_rfl) (by kernel_rfl) (by kernel_rfl) (fun _ _ _ h => h) (Or.inl ⟨by rfl, ?_⟩) (by assumption) ?_
        · intro w hSw; (try dsimp only at hSw); go_simp; (try simp [hSw])
        try simp only [Act.put, List.setIfInBounds_toArray, List.set_cons_zero, List.set_cons_succ]
        refine wpAnyH_take (i := 8) (oi := ⟨some 44, _, _, _, _, some (2, true)⟩) (v := .agg #[.int .i64 r1, .int .i64 r2, .bool r3, .bool r4, .bool r5, .int .i64 r6]) rfl (by kernel_rfl) (by kernel_rfl) (by kernel_rfl) (fun _ _ _ h => h) (Or.inl ⟨by rfl, ?_⟩) (by assumption) ?_
        · intro w hSw; (try dsimp only at hSw); go_simp; (try simp [hSw])
        try simp only [Act.put, List.setIfInBounds_toArray, List.set_cons_zero, List.set_cons_succ]
        have ID : Hid (IsL (wr.alloc (.cells #[.int .i64 r1, .int .i64 r2, .bool r3, .bool r4, .bool r5, .int .i64 r6] 37)).drew base (some ⟨g', 0, none⟩) L) := hI.out.below (below_drew (Go.Joins.below_alloc1 _ _))
        have BD : Hid (Below w.heap.size w (wr.alloc (.cells #[.int .i64 r1, .int .i64 r2, .bool r3, .bool r4, .bool r5, .int .i64 r6] 37)).drew) := below_drew (below_new hb.out _)
        have lD : wr.heap.size < (wr.alloc (.cells #[.int .i64 r1, .int .i64 r2, .bool r3, .bool r4, .bool r5, .int .i64 r6] 37)).drew.heap.size := by show _ < (World.alloc _ _).heap.size; simp
        clear hI hb y0 y1 y2 y3 y4 y5 x0 x1 x2 x3 x4 x5
        generalize (wr.alloc (.cells #[.int .i64 r1, .int .i64 r2, .bool r3, .bool r4, .bool r5, .int .i64 r6] 37)).drew = U at ID BD lD hHeld ⊢
        refine wpAnyH_ready (rs := [9]) (by kernel_rfl) (by simp) ?_
        refine AllReadyH.cons (o := ⟨some 45, _, _, _, _, some (2, true)⟩) rfl (fun K hK => ?_) AllReadyH.nil
        go_simp
        go_wp2_with (go_at_call 34; refine (MJ'.out _).mono ?_; rintro e u3 ⟨rfl, hb3⟩)
        have I3 : Hid (IsL u3 base (some ⟨g', 0, none⟩) L) := ID.out.below hb3
        have B3 : Hid (Below w.heap.size w u3) := below_then BD.out hb3
        have l3 : wr.heap.size < u3.heap.size := Nat.lt_of_lt_of_le lD hb3.size
        obtain ⟨i0, i1, i2, i3, i4, i5, i6, i7, i8, i9, i10, i11⟩ := hHeld
        have hHeld3 : u3.cell? ⟨wr.heap.size, 1, none⟩ = some (.int .i64 r2) := (hb3.cell (p := ⟨wr.heap.size, 1, none⟩) lD).trans i1
        refine hK.out _ _ ⟨(hb3.cell (p := ⟨_, _, none⟩) (lD)).trans i0, (hb3.cell (p := ⟨_, _, none⟩) (lD)).trans i1, (hb3.cell (p := ⟨_, _, none⟩) (lD)).trans i2, (hb3.cell (p := ⟨_, _, none⟩) (lD)).trans i3, (hb3.cell (p := ⟨_, _, none⟩) (lD)).trans i4, (hb3.cell (p := ⟨_, _, none⟩) (lD)).trans i5, (hb3.cell (p := ⟨_, _, none⟩) ((Nat.lt_trans g2' lD))).trans i6, (hb3.cell (p := ⟨_, _, none⟩) ((Nat.lt_trans g2' lD))).trans i7, (hb3.cell (p := ⟨_, _, none⟩) ((Nat.lt_trans g2' lD))).trans i8, (hb3.cell (p := ⟨_, _, none⟩) ((Nat.lt_trans g2' lD))).trans i9, (hb3.cell (p := ⟨_, _, none⟩) ((Nat.lt_trans g2' lD))).trans i10, (hb3.cell (p := ⟨_, _, none⟩) ((Nat.lt_trans g2' lD))).trans i11⟩ (fun hHeld => ?_)
        clear hK K i0 i1 i2 i3 i4 i5 i6 i7 i8 i9 i10 i11 hb3 ID BD lD
        try simp only [Act.put, List.setIfInBounds_toArray, List.set_cons_zero, List.set_cons_succ]
        refine wpAnyH_take (i := 10) (oi := ⟨some 46, _, _, _, _, none⟩) (v := ?_) rfl (by kernel_rfl) (by kernel_rfl) (by kernel_rfl) (fun _ _ _ h => h) (Or.inl ⟨by rfl, ?_⟩) (by assumption) ?_
        rotate_left
        · intro w hSw; (try dsimp only at hSw); go_simp; (try with_reducible rfl)
        try simp only [Act.put, List.setIfInBounds_toArray, List.set_cons_zero, List.set_cons_succ]
        clear hHeld
        refine wpAnyH_done (by kernel_rfl) ?_ _
        refine NoPanic.normal ?_
        cases jn
        · have N3 : Hid (∀ j, j < m + 1 → okAt L j = true) := YES.out (by rw [OK2.out]; rfl)
          have cN : Hid (u3.cell? ⟨wr.heap.size, 1, none⟩ = some (.int .i64 r2)) := hHeld3
          have x1' := cN.out
          go_wp2_with fail
          go_roundw
          case rel => exact ⟨m + 1, r2, by omega, rfl, by go_num, EN.out.symm, N3, I3.out, B3.out⟩
          case measure => simp [intOf]; omega
        · obtain rfl : z = false := NO.out (by rw [OK2.out]; rfl)
          go_wp2_with fail
          go_ret
          exact ⟨rfl, B3.out⟩
    · obtain rfl : m = L.length := by omega
      obtain rfl : z = true := by rw [ZA.out]; exact (allB_iff _ _).2 hG.out
      go_wp2_with fail
      go_ret
      exact ⟨rfl, hb.out⟩
end Go.Proofs.Ytngaodfajihmmaa
