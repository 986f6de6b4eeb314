/- Boot maps: the document's Parse. -/
import Derived.Test.YtkgjeemecpigpaaOM
import Derived.Deep.DeepCutAuto
namespace Go.Proofs.Ytkgjeemecpigpaa.Bm
open Go.ChangeShapes Go.WideShapes Go.ChangeAt Go.RowKit Go.Maps
set_option linter.unusedSimpArgs false
set_option linter.unusedVariables false
set_option maxRecDepth 8000

theorem blk_scs (w : World) {g b : Nat} (ne : g ≠ b) : ∀ (vs : List Value) (o : Nat), (w.setCells b o vs).heap[g]? = w.heap[g]? := fun vs => by
  induction vs generalizing w with
  | nil => intro o; rfl
  | cons v vs ih => intro o; rw [World.setCells, ih (w.setCell ⟨b, o, none⟩ v) (o + 1)]; exact Below.heap_setCell _ _ _ _ ne
theorem rparse_big (p : Option Addr) (n c : Nat) (hn : 1280 < n) (w : World) : Calls Try.prog 11 #[.slice p n c] w fun e w' => e = .returned (.tuple #[.slice none 0 0, .int .i64 4]) ∧ Below w.heap.size w w' := by
  have d1 : decide ((1280 : Int) < (n : Int)) = true := decide_eq_true (by omega)
  go_enter Try.func11, Try.ntmps11
  go_wp2_with fail
  go_returns
  exact ⟨rfl, Below.refl _ _⟩
theorem rparse_end (p : Option Addr) (n c : Nat) (hn : n ≤ 1280) (hm : n % 20 ≠ 0) (w : World) : Calls Try.prog 11 #[.slice p n c] w fun e w' => e = .returned (.tuple #[.slice none 0 0, .int .i64 14]) ∧ Below w.heap.size w w' := by
  have d1 : decide ((1280 : Int) < (n : Int)) = false := decide_eq_false (by omega)
  have d2 : decide ((0 : Int) < (n : Int) % 20) = true := decide_eq_true (by omega)
  have d3 : decide ((0 : Int) < (n : Int).tmod 20) = true := by rw [Int.tmod_eq_emod_of_nonneg (by omega)]; exact d2
  go_enter Try.func11, Try.ntmps11
  go_wp2_with fail
  go_returns
  exact ⟨rfl, Below.refl _ _⟩
set_option maxHeartbeats 4000000 in
theorem rparse_loop (g o m n c : Nat) (B : Nat → Int) (hB : ∀ i, 0 ≤ B i ∧ B i < 256) (hm : m ≤ 64) (hn : n = m * 20) (hc : n ≤ c) (w : World) (lg : g < w.heap.size) (hcs : ∀ i, i < n → w.cell? ⟨g, o + i, none⟩ = some (.int .u8 (B i))) :
    Calls Try.prog 11 #[.slice (some ⟨g, o, none⟩) n c] w fun e w' => ((∃ v', e = .returned (.tuple #[v', .int .i64 0]) ∧ OL 35 3 eA w' w.heap.size v' (areasL B m) ∧ ∀ x ∈ areasL B m, Fit x) ∨ (e = .returned (.tuple #[.slice none 0 0, .int .i64 3]) ∧ ∃ x ∈ areasL B m, ¬ Fit x)) ∧ Below w.heap.size w w' := by
  have d1 : decide ((1280 : Int) < (n : Int)) = false := decide_eq_false (by omega)
  have d2 : decide ((0 : Int) < (n : Int) % 20) = false := decide_eq_false (by omega)
  have d3 : decide ((0 : Int) < (n : Int).tmod 20) = false := by rw [Int.tmod_eq_emod_of_nonneg (by omega)]; exact d2
  have HB : Hid (∀ i, 0 ≤ B i ∧ B i < 256) := hB
  have HC : Hid (∀ i, i < n → w.cell? ⟨g, o + i, none⟩ = some (.int .u8 (B i))) := hcs
  have LG : Hid (g < w.heap.size) := lg
  have J0 : Hid (OL 35 3 eA (w.alloc (.cells #[] 35)) w.heap.size (.slice (some ⟨w.heap.size, 0, none⟩) 0 0) (areasL B 0) ∧ Below w.heap.size w (w.alloc (.cells #[] 35))) := ⟨ol_made w _ (Nat.le_refl _), Go.Joins.below_alloc1 _ _⟩
  have HN : Hid (n = m * 20) := hn
  have n9 : n ≤ 1280 := by omega
  have d4 : ((n : Int) % 20) = 0 := by omega
  have d5 : (n : Int).tmod 20 = 0 := by rw [Int.tmod_eq_emod_of_nonneg (by omega)]; exact d4
  clear hB hcs lg hn
  go_enter Try.func11, Try.ntmps11
  go_wp2_with fail
  generalize Value.slice (some ⟨w.heap.size, 0, none⟩) 0 0 = v4 at J0 ⊢
  generalize w.alloc (.cells #[] 35) = w1 at J0 ⊢
  go_loopw [4, 5, 6] (fun v x _ W => ∃ k a : Nat, k ≤ m ∧ Hid (a = k * 20) ∧ x = .int .i64 a ∧ Hid (OL 35 3 eA W w.heap.size v (areasL B k) ∧ Below w.heap.size w W) ∧ Hid (∀ x ∈ areasL B k, Fit x)) (fun _ x _ _ => n - (Go.RowKit.intOf x).toNat)
  case atStart => exact ⟨0, 0, by omega, rfl, rfl, J0, (fun x hx => absurd hx List.not_mem_nil)⟩
  case round =>
    clear J0
    obtain ⟨k, a, hk, ha0, rfl, JL, JF⟩ := hrel
    have ha := ha0.out
    by_cases ck : k < m
    rotate_left
    · obtain rfl : k = m := by omega
      obtain rfl : a = n := by have := HN.out; omega
      have dk : decide ((a : Int) < (a : Int)) = false := by simp
      clear ha ha0
      go_wp2_with fail
      go_returns
      exact ⟨Or.inl ⟨u4, rfl, JL.out.1, JF.out⟩, JL.out.2⟩
    have a20 : a + 20 ≤ n := by have := HN.out; omega
    have dk : decide ((a : Int) < (n : Int)) = true := decide_eq_true (by omega)
    have HS : Hid (∀ i, i < 20 → wr.cell? ⟨g, o + a + i, none⟩ = some (.int .u8 (B (a + i)))) := fun i hi => by
      rw [World.cell?_of_block (w := w) (JL.out.2.block g LG.out), Nat.add_assoc]; exact HC.out (a + i) (by omega)
    have C1 : ∀ W : World, (∀ i, i < 20 → W.cell? ⟨g, o + a + i, none⟩ = some (.int .u8 (B (a + i)))) → _ := fun W h => rnumber_any g (o + a) 8 (c - a) a B HB.out (by omega) W (fun i hi => h i (by omega))
    have C2 : ∀ W : World, (∀ i, i < 20 → W.cell? ⟨g, o + a + i, none⟩ = some (.int .u8 (B (a + i)))) → _ := fun W h => rnumber_any g (o + (a + 8)) 8 (c - (a + 8)) (a + 8) B HB.out (by omega) W (fun i hi => by have := h (8 + i) (by omega); rw [show o + (a + 8) + i = o + a + (8 + i) by omega, Nat.add_assoc a]; exact this)
    have C3 : ∀ W : World, (∀ i, i < 20 → W.cell? ⟨g, o + a + i, none⟩ = some (.int .u8 (B (a + i)))) → _ := fun W h => rnumber_any g (o + (a + 16)) 4 (c - (a + 16)) (a + 16) B HB.out (by omega) W (fun i hi => by have := h (16 + i) (by omega); rw [show o + (a + 16) + i = o + a + (16 + i) by omega, Nat.add_assoc a]; exact this)
    have WF := arB_wf HB.out a
    have NX : Hid (areasL B (k + 1) = areasL B k ++ [arB B a]) := by show _ = _; rw [ha]; exact areas_succ B k
    have IN : Hid (arB B a ∈ areasL B m) := by
      show _ ∈ _
      unfold areasL
      exact List.mem_map.2 ⟨k, List.mem_range.2 ck, by rw [ha]⟩
    have FI := fit_iff WF
    obtain ⟨X1, e1⟩ : ∃ X, le B a 8 = X := ⟨_, rfl⟩
    obtain ⟨X2, e2⟩ : ∃ X, le B (a + 8) 8 = X := ⟨_, rfl⟩
    obtain ⟨X3, e3⟩ : ∃ X, le B (a + 16) 4 = X := ⟨_, rfl⟩
    have AE : arB B a = ⟨X1, X2, X3⟩ := by rw [← e1, ← e2, ← e3]; rfl
    rw [AE] at NX IN FI WF
    rw [e1] at C1
    rw [e2] at C2
    rw [e3] at C3
    obtain ⟨⟨x0, x1⟩, ⟨x2, x3⟩, ⟨x4, x5⟩⟩ := WF
    simp only at x0 x1 x2 x3 x4 x5 FI
    have HC1 : Hid _ := C1
    have HC2 : Hid _ := C2
    have HC3 : Hid _ := C3
    have HFI : Hid (Fit ⟨X1, X2, X3⟩ ↔ X1 + X2 < 18446744073709551616) := FI
    have u3 : IntKind.u32.wrap X3 = X3 := by rw [IntKind.wrap_u32, Int.emod_eq_of_lt (by omega) (by omega)]
    have AN := ha0
    clear C1 C2 C3 AE FI ha ha0 e1 e2 e3
    go_upto_region 9 with fail
    go_cut [6] (fun p W => ∃ b, p = .pointer (some ⟨b, 0, none⟩) ∧ Hid (Blk W b [.int .u64 X1, .int .u64 X2, .int .u32 X3] 35 ∧ OL 35 3 eA W w.heap.size u4 (areasL B k) ∧ Below w.heap.size w W))
    case first =>
      refine wp_region_noPanic ?_
      refine wp_region_held_drew (S := fun W => ∀ i, i < 20 → W.cell? ⟨g, o + a + i, none⟩ = some (.int .u8 (B (a + i)))) (by kernel_rfl) ?_ (fun hHeld => ?_)
      · exact HS.out
      have JU : Hid (OL 35 3 eA wr.drew w.heap.size u4 (areasL B k) ∧ Below w.heap.size w wr.drew) := ⟨row_below JL.out.1 (below_drew (Below.refl _ _)), below_drew JL.out.2⟩
      clear JL HS
      generalize wr.drew = U at hHeld JU ⊢
      refine wpAnyH_take (i := 0) (oi := ⟨some 21, _, _, _, _, none⟩) (v := ?_) rfl (by kernel_rfl) (by kernel_rfl) (by kernel_rfl) (fun _ _ _ h => h) (Or.inl ⟨by rfl, ?_⟩) (by assumption) ?_
      rotate_left
      · intro w hSw; (try dsimp only at hSw); go_simp; (try with_reducible rfl)
      try simp only [Act.put, List.setIfInBounds_toArray, List.set_cons_zero, List.set_cons_succ]
      refine wpAnyH_take (i := 1) (oi := ⟨some 22, _, _, _, _, none⟩) (v := ?_) rfl (by kernel_rfl) (by kernel_rfl) (by kernel_rfl) (fun _ _ _ h => h) (Or.inl ⟨by rfl, ?_⟩) (by assumption) ?_
      rotate_left
      · intro w hSw; (try dsimp only at hSw); go_simp; (try with_reducible rfl)
      try simp only [Act.put, List.setIfInBounds_toArray, List.set_cons_zero, List.set_cons_succ]
      refine wpAnyH_take (i := 2) (oi := ⟨some 23, _, _, _, _, none⟩) (v := ?_) rfl (by kernel_rfl) (by kernel_rfl) (by kernel_rfl) (fun _ _ _ h => h) (Or.inl ⟨by rfl, ?_⟩) (by assumption) ?_
      rotate_left
      · intro w hSw; (try dsimp only at hSw); go_simp; (try with_reducible rfl)
      try simp only [Act.put, List.setIfInBounds_toArray, List.set_cons_zero, List.set_cons_succ]
      refine wpAnyH_take (i := 3) (oi := ⟨some 24, _, _, _, _, none⟩) (v := (.int .i64 ((a : Int) + 8))) rfl (by kernel_rfl) (by kernel_rfl) (by kernel_rfl) (fun _ _ _ h => h) (Or.inl ⟨by rfl, ?_⟩) (by assumption) ?_
      · intro w hSw; (try dsimp only at hSw); go_simp; (try simp); (try (simp only [IntKind.wrap_i64]; omega))
      try simp only [Act.put, List.setIfInBounds_toArray, List.set_cons_zero, List.set_cons_succ]
      refine wpAnyH_take (i := 4) (oi := ⟨some 25, _, _, _, _, none⟩) (v := (.slice (some ⟨g, o + a, none⟩) 8 (c - a))) rfl (by kernel_rfl) (by kernel_rfl) (by kernel_rfl) (fun _ _ _ h => h) (Or.inl ⟨by rfl, ?_⟩) (by assumption) ?_
      · intro w hSw; (try dsimp only at hSw); have f1 : ¬ ((a : Int) + 8 < (a : Int)) := (by omega); have f2 : (a : Int) + 8 ≤ (c : Int) := (by omega); have f3 : ¬ c = a := (by omega); have f4 : (a : Int) + 16 ≤ (c : Int) := (by omega); have f5 : ¬ ((a : Int) + 16 < (a : Int) + 8) := (by omega); have f6 : ¬ c = a + 8 := (by omega); have f7 : (a : Int) + 20 ≤ (c : Int) := (by omega); have f8 : ¬ c = a + 16 := (by omega); have f9 : ¬ ((a : Int) + 20 < (a : Int) + 16) := (by omega); have f10 : ((a : Int) + 8 - a).toNat = 8 := (by omega); have f11 : ((a : Int) + 16 - (a + 8)).toNat = 8 := (by omega); have f12 : ((a : Int) + 20 - (a + 16)).toNat = 4 := (by omega); have f13 : ((a : Int) + 8).toNat = a + 8 := (by omega); have f14 : ((a : Int) + 16).toNat = a + 16 := (by omega); have f15 : (0 : Int) ≤ (a : Int) + 8 := (by omega); have f16 : (0 : Int) ≤ (a : Int) + 16 := (by omega); have f17 : (0 : Int) ≤ (a : Int) + 20 := (by omega); have f18 : ((a : Int) + 20).toNat = a + 20 := (by omega); have f19 : (a : Int) + 8 ≤ (a : Int) + 16 := (by omega); have f20 : (a : Int) + 16 ≤ (a : Int) + 20 := (by omega); have f21 : a + 16 - (a + 8) = 8 := (by omega); have f22 : a + 20 - (a + 16) = 4 := (by omega); have f23 : a + 8 - a = 8 := (by omega); have f24 : ¬ ((a : Int) + 8 < 0) := (by omega); have f25 : ¬ ((a : Int) + 16 < 0) := (by omega); (try go_simp); (try simp [*])
      try simp only [Act.put, List.setIfInBounds_toArray, List.set_cons_zero, List.set_cons_succ]
      refine wpAnyH_take (i := 6) (oi := ⟨some 27, _, _, _, _, none⟩) (v := ?_) rfl (by kernel_rfl) (by kernel_rfl) (by kernel_rfl) (fun _ _ _ h => h) (Or.inl ⟨by rfl, ?_⟩) (by assumption) ?_
      rotate_left
      · intro w hSw; (try dsimp only at hSw); go_simp; (try with_reducible rfl)
      try simp only [Act.put, List.setIfInBounds_toArray, List.set_cons_zero, List.set_cons_succ]
      refine wpAnyH_take (i := 7) (oi := ⟨some 28, _, _, _, _, none⟩) (v := ?_) rfl (by kernel_rfl) (by kernel_rfl) (by kernel_rfl) (fun _ _ _ h => h) (Or.inl ⟨by rfl, ?_⟩) (by assumption) ?_
      rotate_left
      · intro w hSw; (try dsimp only at hSw); go_simp; (try with_reducible rfl)
      try simp only [Act.put, List.setIfInBounds_toArray, List.set_cons_zero, List.set_cons_succ]
      refine wpAnyH_take (i := 8) (oi := ⟨some 29, _, _, _, _, none⟩) (v := (.int .i64 ((a : Int) + 8))) rfl (by kernel_rfl) (by kernel_rfl) (by kernel_rfl) (fun _ _ _ h => h) (Or.inl ⟨by rfl, ?_⟩) (by assumption) ?_
      · intro w hSw; (try dsimp only at hSw); go_simp; (try simp); (try (simp only [IntKind.wrap_i64]; omega))
      try simp only [Act.put, List.setIfInBounds_toArray, List.set_cons_zero, List.set_cons_succ]
      refine wpAnyH_take (i := 9) (oi := ⟨some 30, _, _, _, _, none⟩) (v := ?_) rfl (by kernel_rfl) (by kernel_rfl) (by kernel_rfl) (fun _ _ _ h => h) (Or.inl ⟨by rfl, ?_⟩) (by assumption) ?_
      rotate_left
      · intro w hSw; (try dsimp only at hSw); go_simp; (try with_reducible rfl)
      try simp only [Act.put, List.setIfInBounds_toArray, List.set_cons_zero, List.set_cons_succ]
      refine wpAnyH_take (i := 10) (oi := ⟨some 31, _, _, _, _, none⟩) (v := (.int .i64 ((a : Int) + 16))) rfl (by kernel_rfl) (by kernel_rfl) (by kernel_rfl) (fun _ _ _ h => h) (Or.inl ⟨by rfl, ?_⟩) (by assumption) ?_
      · intro w hSw; (try dsimp only at hSw); go_simp; (try simp); (try (simp only [IntKind.wrap_i64]; omega))
      try simp only [Act.put, List.setIfInBounds_toArray, List.set_cons_zero, List.set_cons_succ]
      refine wpAnyH_take (i := 11) (oi := ⟨some 32, _, _, _, _, none⟩) (v := (.slice (some ⟨g, o + (a + 8), none⟩) 8 (c - (a + 8)))) rfl (by kernel_rfl) (by kernel_rfl) (by kernel_rfl) (fun _ _ _ h => h) (Or.inl ⟨by rfl, ?_⟩) (by assumption) ?_
      · intro w hSw; (try dsimp only at hSw); have f1 : ¬ ((a : Int) + 8 < (a : Int)) := (by omega); have f2 : (a : Int) + 8 ≤ (c : Int) := (by omega); have f3 : ¬ c = a := (by omega); have f4 : (a : Int) + 16 ≤ (c : Int) := (by omega); have f5 : ¬ ((a : Int) + 16 < (a : Int) + 8) := (by omega); have f6 : ¬ c = a + 8 := (by omega); have f7 : (a : Int) + 20 ≤ (c : Int) := (by omega); have f8 : ¬ c = a + 16 := (by omega); have f9 : ¬ ((a : Int) + 20 < (a : Int) + 16) := (by omega); have f10 : ((a : Int) + 8 - a).toNat = 8 := (by omega); have f11 : ((a : Int) + 16 - (a + 8)).toNat = 8 := (by omega); have f12 : ((a : Int) + 20 - (a + 16)).toNat = 4 := (by omega); have f13 : ((a : Int) + 8).toNat = a + 8 := (by omega); have f14 : ((a : Int) + 16).toNat = a + 16 := (by omega); have f15 : (0 : Int) ≤ (a : Int) + 8 := (by omega); have f16 : (0 : Int) ≤ (a : Int) + 16 := (by omega); have f17 : (0 : Int) ≤ (a : Int) + 20 := (by omega); have f18 : ((a : Int) + 20).toNat = a + 20 := (by omega); have f19 : (a : Int) + 8 ≤ (a : Int) + 16 := (by omega); have f20 : (a : Int) + 16 ≤ (a : Int) + 20 := (by omega); have f21 : a + 16 - (a + 8) = 8 := (by omega); have f22 : a + 20 - (a + 16) = 4 := (by omega); have f23 : a + 8 - a = 8 := (by omega); have f24 : ¬ ((a : Int) + 8 < 0) := (by omega); have f25 : ¬ ((a : Int) + 16 < 0) := (by omega); (try go_simp); (try simp [*])
      try simp only [Act.put, List.setIfInBounds_toArray, List.set_cons_zero, List.set_cons_succ]
      refine wpAnyH_take (i := 13) (oi := ⟨some 34, _, _, _, _, none⟩) (v := ?_) rfl (by kernel_rfl) (by kernel_rfl) (by kernel_rfl) (fun _ _ _ h => h) (Or.inl ⟨by rfl, ?_⟩) (by assumption) ?_
      rotate_left
      · intro w hSw; (try dsimp only at hSw); go_simp; (try with_reducible rfl)
      try simp only [Act.put, List.setIfInBounds_toArray, List.set_cons_zero, List.set_cons_succ]
      refine wpAnyH_take (i := 14) (oi := ⟨some 35, _, _, _, _, none⟩) (v := ?_) rfl (by kernel_rfl) (by kernel_rfl) (by kernel_rfl) (fun _ _ _ h => h) (Or.inl ⟨by rfl, ?_⟩) (by assumption) ?_
      rotate_left
      · intro w hSw; (try dsimp only at hSw); go_simp; (try with_reducible rfl)
      try simp only [Act.put, List.setIfInBounds_toArray, List.set_cons_zero, List.set_cons_succ]
      refine wpAnyH_take (i := 15) (oi := ⟨some 36, _, _, _, _, none⟩) (v := (.int .i64 ((a : Int) + 16))) rfl (by kernel_rfl) (by kernel_rfl) (by kernel_rfl) (fun _ _ _ h => h) (Or.inl ⟨by rfl, ?_⟩) (by assumption) ?_
      · intro w hSw; (try dsimp only at hSw); go_simp; (try simp); (try (simp only [IntKind.wrap_i64]; omega))
      try simp only [Act.put, List.setIfInBounds_toArray, List.set_cons_zero, List.set_cons_succ]
      refine wpAnyH_take (i := 16) (oi := ⟨some 37, _, _, _, _, none⟩) (v := ?_) rfl (by kernel_rfl) (by kernel_rfl) (by kernel_rfl) (fun _ _ _ h => h) (Or.inl ⟨by rfl, ?_⟩) (by assumption) ?_
      rotate_left
      · intro w hSw; (try dsimp only at hSw); go_simp; (try with_reducible rfl)
      try simp only [Act.put, List.setIfInBounds_toArray, List.set_cons_zero, List.set_cons_succ]
      refine wpAnyH_take (i := 17) (oi := ⟨some 38, _, _, _, _, none⟩) (v := (.int .i64 ((a : Int) + 20))) rfl (by kernel_rfl) (by kernel_rfl) (by kernel_rfl) (fun _ _ _ h => h) (Or.inl ⟨by rfl, ?_⟩) (by assumption) ?_
      · intro w hSw; (try dsimp only at hSw); go_simp; (try simp); (try (simp only [IntKind.wrap_i64]; omega))
      try simp only [Act.put, List.setIfInBounds_toArray, List.set_cons_zero, List.set_cons_succ]
      refine wpAnyH_take (i := 18) (oi := ⟨some 39, _, _, _, _, none⟩) (v := (.slice (some ⟨g, o + (a + 16), none⟩) 4 (c - (a + 16)))) rfl (by kernel_rfl) (by kernel_rfl) (by kernel_rfl) (fun _ _ _ h => h) (Or.inl ⟨by rfl, ?_⟩) (by assumption) ?_
      · intro w hSw; (try dsimp only at hSw); have f1 : ¬ ((a : Int) + 8 < (a : Int)) := (by omega); have f2 : (a : Int) + 8 ≤ (c : Int) := (by omega); have f3 : ¬ c = a := (by omega); have f4 : (a : Int) + 16 ≤ (c : Int) := (by omega); have f5 : ¬ ((a : Int) + 16 < (a : Int) + 8) := (by omega); have f6 : ¬ c = a + 8 := (by omega); have f7 : (a : Int) + 20 ≤ (c : Int) := (by omega); have f8 : ¬ c = a + 16 := (by omega); have f9 : ¬ ((a : Int) + 20 < (a : Int) + 16) := (by omega); have f10 : ((a : Int) + 8 - a).toNat = 8 := (by omega); have f11 : ((a : Int) + 16 - (a + 8)).toNat = 8 := (by omega); have f12 : ((a : Int) + 20 - (a + 16)).toNat = 4 := (by omega); have f13 : ((a : Int) + 8).toNat = a + 8 := (by omega); have f14 : ((a : Int) + 16).toNat = a + 16 := (by omega); have f15 : (0 : Int) ≤ (a : Int) + 8 := (by omega); have f16 : (0 : Int) ≤ (a : Int) + 16 := (by omega); have f17 : (0 : Int) ≤ (a : Int) + 20 := (by omega); have f18 : ((a : Int) + 20).toNat = a + 20 := (by omega); have f19 : (a : Int) + 8 ≤ (a : Int) + 16 := (by omega); have f20 : (a : Int) + 16 ≤ (a : Int) + 20 := (by omega); have f21 : a + 16 - (a + 8) = 8 := (by omega); have f22 : a + 20 - (a + 16) = 4 := (by omega); have f23 : a + 8 - a = 8 := (by omega); have f24 : ¬ ((a : Int) + 8 < 0) := (by omega); have f25 : ¬ ((a : Int) + 16 < 0) := (by omega); (try go_simp); (try simp [*])
      try simp only [Act.put, List.setIfInBounds_toArray, List.set_cons_zero, List.set_cons_succ]
      refine wpAnyH_ready (rs := [5, 22]) (by kernel_rfl) (by simp) ?_
      refine AllReadyH.cons (o := ⟨some 26, _, _, _, _, none⟩) rfl (fun K hK => ?_) (AllReadyH.cons (o := ⟨some 6, _, _, _, _, none⟩) rfl (fun K hK => ?_) AllReadyH.nil)
      · go_simp
        go_wp2_with (go_at_call 24; refine Calls.mono (HC1.out _ hHeld) ?_; rintro e w2 ⟨rfl, hu⟩)
        subst hu
        refine hK.out _ _ hHeld (fun hHeld2 => ?_)
        clear hK K hHeld
        have hHeld := hHeld2
        clear hHeld2
        try simp only [Act.put, List.setIfInBounds_toArray, List.set_cons_zero, List.set_cons_succ]
        refine wpAnyH_ready (rs := [12, 22]) (by kernel_rfl) (by simp) ?_
        refine AllReadyH.cons (o := ⟨some 33, _, _, _, _, none⟩) rfl (fun K hK => ?_) (AllReadyH.cons (o := ⟨some 6, _, _, _, _, none⟩) rfl (fun K hK => ?_) AllReadyH.nil)
        · go_simp
          go_wp2_with (go_at_call 24; refine Calls.mono (HC2.out _ hHeld) ?_; rintro e w2 ⟨rfl, hu⟩)
          subst hu
          refine hK.out _ _ hHeld (fun hHeld2 => ?_)
          clear hK K hHeld
          have hHeld := hHeld2
          clear hHeld2
          try simp only [Act.put, List.setIfInBounds_toArray, List.set_cons_zero, List.set_cons_succ]
          refine wpAnyH_ready (rs := [19, 22]) (by kernel_rfl) (by simp) ?_
          refine AllReadyH.cons (o := ⟨some 40, _, _, _, _, none⟩) rfl (fun K hK => ?_) (AllReadyH.cons (o := ⟨some 6, _, _, _, _, none⟩) rfl (fun K hK => ?_) AllReadyH.nil)
          · go_simp
            go_wp2_with (go_at_call 24; refine Calls.mono (HC3.out _ hHeld) ?_; rintro e w2 ⟨rfl, hu⟩)
            subst hu
            refine hK.out _ _ hHeld (fun hHeld2 => ?_)
            clear hK K hHeld
            have hHeld := hHeld2
            clear hHeld2
            try simp only [Act.put, List.setIfInBounds_toArray, List.set_cons_zero, List.set_cons_succ]
            refine wpAnyH_take (i := 20) (oi := ⟨some 41, _, _, _, _, none⟩) (v := ?_) rfl (by kernel_rfl) (by kernel_rfl) (by kernel_rfl) (fun _ _ _ h => h) (Or.inl ⟨by rfl, ?_⟩) (by assumption) ?_
            rotate_left
            · intro w hSw; (try dsimp only at hSw); go_simp; (try with_reducible rfl)
            try simp only [Act.put, List.setIfInBounds_toArray, List.set_cons_zero, List.set_cons_succ]
            refine wpAnyH_take (i := 21) (oi := ⟨some 42, _, _, _, _, none⟩) (v := ?_) rfl (by kernel_rfl) (by kernel_rfl) (by kernel_rfl) (fun _ _ _ h => h) (Or.inl ⟨by rfl, ?_⟩) (by assumption) ?_
            rotate_left
            · intro w hSw; (try dsimp only at hSw); go_simp; (try with_reducible rfl)
            try simp only [Act.put, List.setIfInBounds_toArray, List.set_cons_zero, List.set_cons_succ]
            refine wpAnyH_ready (rs := [22]) (by kernel_rfl) (by simp) ?_
            refine AllReadyH.cons (o := ⟨some 6, _, _, _, _, none⟩) rfl (fun K hK => ?_) AllReadyH.nil
            have HS1 : Hid (∀ i, i < 20 → (w2.alloc (.cells #[.int .u64 0, .int .u64 0, .int .u32 0] 35)).cell? ⟨g, o + a + i, none⟩ = some (.int .u8 (B (a + i)))) := fun i hi => by
              rw [World.cell?_alloc_past _ _ _ (Nat.lt_of_lt_of_le LG.out JU.out.2.size)]; exact hHeld i hi
            have ZB : Hid (Blk (w2.alloc (.cells #[.int .u64 0, .int .u64 0, .int .u32 0] 35)) w2.heap.size [.int .u64 0, .int .u64 0, .int .u32 0] 35) := Blk.made w2 [.int .u64 0, .int .u64 0, .int .u32 0] 35
            have JV : Hid (OL 35 3 eA (w2.alloc (.cells #[.int .u64 0, .int .u64 0, .int .u32 0] 35)) w.heap.size u4 (areasL B k) ∧ Below w.heap.size w (w2.alloc (.cells #[.int .u64 0, .int .u64 0, .int .u32 0] 35))) := ⟨row_below JU.out.1 (Go.Joins.below_alloc1 _ _), below_new JU.out.2 _⟩
            have RB : Hid (w.heap.size ≤ w2.heap.size ∧ (∀ g, u4.ownBlock = some g → g ≠ w2.heap.size)) := ⟨JU.out.2.size, fun g e q => by have := (row_lt JU.out.1 g e).2; omega⟩
            go_simp
            refine hK.out _ _ HS1.out (fun hHeld2 => ?_)
            clear hK K hHeld JU HS1
            generalize w2.alloc (.cells #[.int .u64 0, .int .u64 0, .int .u32 0] 35) = w3 at hHeld2 ZB JV ⊢
            generalize w2.heap.size = b at RB ZB ⊢
            have hHeld := hHeld2
            clear hHeld2
            try simp only [Act.put, List.setIfInBounds_toArray, List.set_cons_zero, List.set_cons_succ]
            refine wpAnyH_ready (rs := [23]) (by kernel_rfl) (by simp) ?_
            refine AllReadyH.cons (o := ⟨none, .store 35 (.tmp 6) (.tmp 42), _, _, _, none⟩) rfl (fun K hK => ?_) AllReadyH.nil
            refine wanted_mp rfl ?_
            have th : w3.there b 0 3 := Blk.there ZB.out
            refine wp_store_mid _ _ _ rfl b 0 #[.int .u64 X1, .int .u64 X2, .int .u32 X3] rfl rfl th (by kernel_rfl) (by simp [Value.oneCell']) ?_
            (try simp only [List.toList_toArray])
            have F1 : Hid (Blk (w3.setCells b 0 [.int .u64 X1, .int .u64 X2, .int .u32 X3]) b [.int .u64 X1, .int .u64 X2, .int .u32 X3] 35 ∧ OL 35 3 eA (w3.setCells b 0 [.int .u64 X1, .int .u64 X2, .int .u32 X3]) w.heap.size u4 (areasL B k) ∧ Below w.heap.size w (w3.setCells b 0 [.int .u64 X1, .int .u64 X2, .int .u32 X3])) := ⟨((Blk.set ZB.out 0 (.int .u64 X1)).set 1 (.int .u64 X2)).set 2 (.int .u32 X3), row_keep JV.out.1 (fun g e => blk_scs _ (RB.out.2 g e) _ _), ((JV.out.2.setCell (p := ⟨b, 0, none⟩) RB.out.1 _).setCell (p := ⟨b, 1, none⟩) RB.out.1 _).setCell (p := ⟨b, 2, none⟩) RB.out.1 _⟩
            have HS2 : Hid (∀ i, i < 20 → (w3.setCells b 0 [.int .u64 X1, .int .u64 X2, .int .u32 X3]).cell? ⟨g, o + a + i, none⟩ = some (.int .u8 (B (a + i)))) := fun i hi => by
              rw [World.cell?_of_block (w := w3) (blk_scs _ (fun (q : g = b) => by have := LG.out; have := RB.out.1; omega) _ _)]; exact hHeld i hi
            generalize w3.setCells b 0 [.int .u64 X1, .int .u64 X2, .int .u32 X3] = V at *
            refine hK.out _ _ HS2.out (fun hHeld2 => ?_)
            clear hK K hHeld th ZB JV RB HS2
            have hHeld := hHeld2
            clear hHeld2
            try simp only [Act.put, List.setIfInBounds_toArray, List.set_cons_zero, List.set_cons_succ]
            clear hHeld
            refine wpAnyH_done (by kernel_rfl) ?_ _
            refine NoPanic.normal ?_
            go_wp2_with fail
            go_meet
            exact ⟨b, rfl, F1⟩
          · have HS1 : Hid (∀ i, i < 20 → (w2.alloc (.cells #[.int .u64 0, .int .u64 0, .int .u32 0] 35)).cell? ⟨g, o + a + i, none⟩ = some (.int .u8 (B (a + i)))) := fun i hi => by
              rw [World.cell?_alloc_past _ _ _ (Nat.lt_of_lt_of_le LG.out JU.out.2.size)]; exact hHeld i hi
            have ZB : Hid (Blk (w2.alloc (.cells #[.int .u64 0, .int .u64 0, .int .u32 0] 35)) w2.heap.size [.int .u64 0, .int .u64 0, .int .u32 0] 35) := Blk.made w2 [.int .u64 0, .int .u64 0, .int .u32 0] 35
            have JV : Hid (OL 35 3 eA (w2.alloc (.cells #[.int .u64 0, .int .u64 0, .int .u32 0] 35)) w.heap.size u4 (areasL B k) ∧ Below w.heap.size w (w2.alloc (.cells #[.int .u64 0, .int .u64 0, .int .u32 0] 35))) := ⟨row_below JU.out.1 (Go.Joins.below_alloc1 _ _), below_new JU.out.2 _⟩
            have RB : Hid (w.heap.size ≤ w2.heap.size ∧ (∀ g, u4.ownBlock = some g → g ≠ w2.heap.size)) := ⟨JU.out.2.size, fun g e q => by have := (row_lt JU.out.1 g e).2; omega⟩
            go_simp
            refine hK.out _ _ HS1.out (fun hHeld2 => ?_)
            clear hK K hHeld JU HS1
            generalize w2.alloc (.cells #[.int .u64 0, .int .u64 0, .int .u32 0] 35) = w3 at hHeld2 ZB JV ⊢
            generalize w2.heap.size = b at RB ZB ⊢
            have hHeld := hHeld2
            clear hHeld2
            try simp only [Act.put, List.setIfInBounds_toArray, List.set_cons_zero, List.set_cons_succ]
            refine wpAnyH_ready (rs := [19]) (by kernel_rfl) (by simp) ?_
            refine AllReadyH.cons (o := ⟨some 40, _, _, _, _, none⟩) rfl (fun K hK => ?_) AllReadyH.nil
            go_simp
            go_wp2_with (go_at_call 24; refine Calls.mono (HC3.out _ hHeld) ?_; rintro e w2 ⟨rfl, hu⟩)
            subst hu
            refine hK.out _ _ hHeld (fun hHeld2 => ?_)
            clear hK K hHeld
            have hHeld := hHeld2
            clear hHeld2
            try simp only [Act.put, List.setIfInBounds_toArray, List.set_cons_zero, List.set_cons_succ]
            refine wpAnyH_take (i := 20) (oi := ⟨some 41, _, _, _, _, none⟩) (v := ?_) rfl (by kernel_rfl) (by kernel_rfl) (by kernel_rfl) (fun _ _ _ h => h) (Or.inl ⟨by rfl, ?_⟩) (by assumption) ?_
            rotate_left
            · intro w hSw; (try dsimp only at hSw); go_simp; (try with_reducible rfl)
            try simp only [Act.put, List.setIfInBounds_toArray, List.set_cons_zero, List.set_cons_succ]
            refine wpAnyH_take (i := 21) (oi := ⟨some 42, _, _, _, _, none⟩) (v := ?_) rfl (by kernel_rfl) (by kernel_rfl) (by kernel_rfl) (fun _ _ _ h => h) (Or.inl ⟨by rfl, ?_⟩) (by assumption) ?_
            rotate_left
            · intro w hSw; (try dsimp only at hSw); go_simp; (try with_reducible rfl)
            try simp only [Act.put, List.setIfInBounds_toArray, List.set_cons_zero, List.set_cons_succ]
            refine wpAnyH_ready (rs := [23]) (by kernel_rfl) (by simp) ?_
            refine AllReadyH.cons (o := ⟨none, .store 35 (.tmp 6) (.tmp 42), _, _, _, none⟩) rfl (fun K hK => ?_) AllReadyH.nil
            refine wanted_mp rfl ?_
            have th : w2.there b 0 3 := Blk.there ZB.out
            refine wp_store_mid _ _ _ rfl b 0 #[.int .u64 X1, .int .u64 X2, .int .u32 X3] rfl rfl th (by kernel_rfl) (by simp [Value.oneCell']) ?_
            (try simp only [List.toList_toArray])
            have F1 : Hid (Blk (w2.setCells b 0 [.int .u64 X1, .int .u64 X2, .int .u32 X3]) b [.int .u64 X1, .int .u64 X2, .int .u32 X3] 35 ∧ OL 35 3 eA (w2.setCells b 0 [.int .u64 X1, .int .u64 X2, .int .u32 X3]) w.heap.size u4 (areasL B k) ∧ Below w.heap.size w (w2.setCells b 0 [.int .u64 X1, .int .u64 X2, .int .u32 X3])) := ⟨((Blk.set ZB.out 0 (.int .u64 X1)).set 1 (.int .u64 X2)).set 2 (.int .u32 X3), row_keep JV.out.1 (fun g e => blk_scs _ (RB.out.2 g e) _ _), ((JV.out.2.setCell (p := ⟨b, 0, none⟩) RB.out.1 _).setCell (p := ⟨b, 1, none⟩) RB.out.1 _).setCell (p := ⟨b, 2, none⟩) RB.out.1 _⟩
            have HS2 : Hid (∀ i, i < 20 → (w2.setCells b 0 [.int .u64 X1, .int .u64 X2, .int .u32 X3]).cell? ⟨g, o + a + i, none⟩ = some (.int .u8 (B (a + i)))) := fun i hi => by
              rw [World.cell?_of_block (w := w2) (blk_scs _ (fun (q : g = b) => by have := LG.out; have := RB.out.1; omega) _ _)]; exact hHeld i hi
            generalize w2.setCells b 0 [.int .u64 X1, .int .u64 X2, .int .u32 X3] = V at *
            refine hK.out _ _ HS2.out (fun hHeld2 => ?_)
            clear hK K hHeld th ZB JV RB HS2
            have hHeld := hHeld2
            clear hHeld2
            try simp only [Act.put, List.setIfInBounds_toArray, List.set_cons_zero, List.set_cons_succ]
            clear hHeld
            refine wpAnyH_done (by kernel_rfl) ?_ _
            refine NoPanic.normal ?_
            go_wp2_with fail
            go_meet
            exact ⟨b, rfl, F1⟩
        · have HS1 : Hid (∀ i, i < 20 → (w2.alloc (.cells #[.int .u64 0, .int .u64 0, .int .u32 0] 35)).cell? ⟨g, o + a + i, none⟩ = some (.int .u8 (B (a + i)))) := fun i hi => by
            rw [World.cell?_alloc_past _ _ _ (Nat.lt_of_lt_of_le LG.out JU.out.2.size)]; exact hHeld i hi
          have ZB : Hid (Blk (w2.alloc (.cells #[.int .u64 0, .int .u64 0, .int .u32 0] 35)) w2.heap.size [.int .u64 0, .int .u64 0, .int .u32 0] 35) := Blk.made w2 [.int .u64 0, .int .u64 0, .int .u32 0] 35
          have JV : Hid (OL 35 3 eA (w2.alloc (.cells #[.int .u64 0, .int .u64 0, .int .u32 0] 35)) w.heap.size u4 (areasL B k) ∧ Below w.heap.size w (w2.alloc (.cells #[.int .u64 0, .int .u64 0, .int .u32 0] 35))) := ⟨row_below JU.out.1 (Go.Joins.below_alloc1 _ _), below_new JU.out.2 _⟩
          have RB : Hid (w.heap.size ≤ w2.heap.size ∧ (∀ g, u4.ownBlock = some g → g ≠ w2.heap.size)) := ⟨JU.out.2.size, fun g e q => by have := (row_lt JU.out.1 g e).2; omega⟩
          go_simp
          refine hK.out _ _ HS1.out (fun hHeld2 => ?_)
          clear hK K hHeld JU HS1
          generalize w2.alloc (.cells #[.int .u64 0, .int .u64 0, .int .u32 0] 35) = w3 at hHeld2 ZB JV ⊢
          generalize w2.heap.size = b at RB ZB ⊢
          have hHeld := hHeld2
          clear hHeld2
          try simp only [Act.put, List.setIfInBounds_toArray, List.set_cons_zero, List.set_cons_succ]
          refine wpAnyH_ready (rs := [12]) (by kernel_rfl) (by simp) ?_
          refine AllReadyH.cons (o := ⟨some 33, _, _, _, _, none⟩) rfl (fun K hK => ?_) AllReadyH.nil
          go_simp
          go_wp2_with (go_at_call 24; refine Calls.mono (HC2.out _ hHeld) ?_; rintro e w2 ⟨rfl, hu⟩)
          subst hu
          refine hK.out _ _ hHeld (fun hHeld2 => ?_)
          clear hK K hHeld
          have hHeld := hHeld2
          clear hHeld2
          try simp only [Act.put, List.setIfInBounds_toArray, List.set_cons_zero, List.set_cons_succ]
          refine wpAnyH_ready (rs := [19]) (by kernel_rfl) (by simp) ?_
          refine AllReadyH.cons (o := ⟨some 40, _, _, _, _, none⟩) rfl (fun K hK => ?_) AllReadyH.nil
          go_simp
          go_wp2_with (go_at_call 24; refine Calls.mono (HC3.out _ hHeld) ?_; rintro e w2 ⟨rfl, hu⟩)
          subst hu
          refine hK.out _ _ hHeld (fun hHeld2 => ?_)
          clear hK K hHeld
          have hHeld := hHeld2
          clear hHeld2
          try simp only [Act.put, List.setIfInBounds_toArray, List.set_cons_zero, List.set_cons_succ]
          refine wpAnyH_take (i := 20) (oi := ⟨some 41, _, _, _, _, none⟩) (v := ?_) rfl (by kernel_rfl) (by kernel_rfl) (by kernel_rfl) (fun _ _ _ h => h) (Or.inl ⟨by rfl, ?_⟩) (by assumption) ?_
          rotate_left
          · intro w hSw; (try dsimp only at hSw); go_simp; (try with_reducible rfl)
          try simp only [Act.put, List.setIfInBounds_toArray, List.set_cons_zero, List.set_cons_succ]
          refine wpAnyH_take (i := 21) (oi := ⟨some 42, _, _, _, _, none⟩) (v := ?_) rfl (by kernel_rfl) (by kernel_rfl) (by kernel_rfl) (fun _ _ _ h => h) (Or.inl ⟨by rfl, ?_⟩) (by assumption) ?_
          rotate_left
          · intro w hSw; (try dsimp only at hSw); go_simp; (try with_reducible rfl)
          try simp only [Act.put, List.setIfInBounds_toArray, List.set_cons_zero, List.set_cons_succ]
          refine wpAnyH_ready (rs := [23]) (by kernel_rfl) (by simp) ?_
          refine AllReadyH.cons (o := ⟨none, .store 35 (.tmp 6) (.tmp 42), _, _, _, none⟩) rfl (fun K hK => ?_) AllReadyH.nil
          refine wanted_mp rfl ?_
          have th : w2.there b 0 3 := Blk.there ZB.out
          refine wp_store_mid _ _ _ rfl b 0 #[.int .u64 X1, .int .u64 X2, .int .u32 X3] rfl rfl th (by kernel_rfl) (by simp [Value.oneCell']) ?_
          (try simp only [List.toList_toArray])
          have F1 : Hid (Blk (w2.setCells b 0 [.int .u64 X1, .int .u64 X2, .int .u32 X3]) b [.int .u64 X1, .int .u64 X2, .int .u32 X3] 35 ∧ OL 35 3 eA (w2.setCells b 0 [.int .u64 X1, .int .u64 X2, .int .u32 X3]) w.heap.size u4 (areasL B k) ∧ Below w.heap.size w (w2.setCells b 0 [.int .u64 X1, .int .u64 X2, .int .u32 X3])) := ⟨((Blk.set ZB.out 0 (.int .u64 X1)).set 1 (.int .u64 X2)).set 2 (.int .u32 X3), row_keep JV.out.1 (fun g e => blk_scs _ (RB.out.2 g e) _ _), ((JV.out.2.setCell (p := ⟨b, 0, none⟩) RB.out.1 _).setCell (p := ⟨b, 1, none⟩) RB.out.1 _).setCell (p := ⟨b, 2, none⟩) RB.out.1 _⟩
          have HS2 : Hid (∀ i, i < 20 → (w2.setCells b 0 [.int .u64 X1, .int .u64 X2, .int .u32 X3]).cell? ⟨g, o + a + i, none⟩ = some (.int .u8 (B (a + i)))) := fun i hi => by
            rw [World.cell?_of_block (w := w2) (blk_scs _ (fun (q : g = b) => by have := LG.out; have := RB.out.1; omega) _ _)]; exact hHeld i hi
          generalize w2.setCells b 0 [.int .u64 X1, .int .u64 X2, .int .u32 X3] = V at *
          refine hK.out _ _ HS2.out (fun hHeld2 => ?_)
          clear hK K hHeld th ZB JV RB HS2
          have hHeld := hHeld2
          clear hHeld2
          try simp only [Act.put, List.setIfInBounds_toArray, List.set_cons_zero, List.set_cons_succ]
          clear hHeld
          refine wpAnyH_done (by kernel_rfl) ?_ _
          refine NoPanic.normal ?_
          go_wp2_with fail
          go_meet
          exact ⟨b, rfl, F1⟩
      · have HS1 : Hid (∀ i, i < 20 → (U.alloc (.cells #[.int .u64 0, .int .u64 0, .int .u32 0] 35)).cell? ⟨g, o + a + i, none⟩ = some (.int .u8 (B (a + i)))) := fun i hi => by
          rw [World.cell?_alloc_past _ _ _ (Nat.lt_of_lt_of_le LG.out JU.out.2.size)]; exact hHeld i hi
        have ZB : Hid (Blk (U.alloc (.cells #[.int .u64 0, .int .u64 0, .int .u32 0] 35)) U.heap.size [.int .u64 0, .int .u64 0, .int .u32 0] 35) := Blk.made U [.int .u64 0, .int .u64 0, .int .u32 0] 35
        have JV : Hid (OL 35 3 eA (U.alloc (.cells #[.int .u64 0, .int .u64 0, .int .u32 0] 35)) w.heap.size u4 (areasL B k) ∧ Below w.heap.size w (U.alloc (.cells #[.int .u64 0, .int .u64 0, .int .u32 0] 35))) := ⟨row_below JU.out.1 (Go.Joins.below_alloc1 _ _), below_new JU.out.2 _⟩
        have RB : Hid (w.heap.size ≤ U.heap.size ∧ (∀ g, u4.ownBlock = some g → g ≠ U.heap.size)) := ⟨JU.out.2.size, fun g e q => by have := (row_lt JU.out.1 g e).2; omega⟩
        go_simp
        refine hK.out _ _ HS1.out (fun hHeld2 => ?_)
        clear hK K hHeld JU HS1
        generalize U.alloc (.cells #[.int .u64 0, .int .u64 0, .int .u32 0] 35) = w3 at hHeld2 ZB JV ⊢
        generalize U.heap.size = b at RB ZB ⊢
        have hHeld := hHeld2
        clear hHeld2
        try simp only [Act.put, List.setIfInBounds_toArray, List.set_cons_zero, List.set_cons_succ]
        refine wpAnyH_ready (rs := [5]) (by kernel_rfl) (by simp) ?_
        refine AllReadyH.cons (o := ⟨some 26, _, _, _, _, none⟩) rfl (fun K hK => ?_) AllReadyH.nil
        go_simp
        go_wp2_with (go_at_call 24; refine Calls.mono (HC1.out _ hHeld) ?_; rintro e w2 ⟨rfl, hu⟩)
        subst hu
        refine hK.out _ _ hHeld (fun hHeld2 => ?_)
        clear hK K hHeld
        have hHeld := hHeld2
        clear hHeld2
        try simp only [Act.put, List.setIfInBounds_toArray, List.set_cons_zero, List.set_cons_succ]
        refine wpAnyH_ready (rs := [12]) (by kernel_rfl) (by simp) ?_
        refine AllReadyH.cons (o := ⟨some 33, _, _, _, _, none⟩) rfl (fun K hK => ?_) AllReadyH.nil
        go_simp
        go_wp2_with (go_at_call 24; refine Calls.mono (HC2.out _ hHeld) ?_; rintro e w2 ⟨rfl, hu⟩)
        subst hu
        refine hK.out _ _ hHeld (fun hHeld2 => ?_)
        clear hK K hHeld
        have hHeld := hHeld2
        clear hHeld2
        try simp only [Act.put, List.setIfInBounds_toArray, List.set_cons_zero, List.set_cons_succ]
        refine wpAnyH_ready (rs := [19]) (by kernel_rfl) (by simp) ?_
        refine AllReadyH.cons (o := ⟨some 40, _, _, _, _, none⟩) rfl (fun K hK => ?_) AllReadyH.nil
        go_simp
        go_wp2_with (go_at_call 24; refine Calls.mono (HC3.out _ hHeld) ?_; rintro e w2 ⟨rfl, hu⟩)
        subst hu
        refine hK.out _ _ hHeld (fun hHeld2 => ?_)
        clear hK K hHeld
        have hHeld := hHeld2
        clear hHeld2
        try simp only [Act.put, List.setIfInBounds_toArray, List.set_cons_zero, List.set_cons_succ]
        refine wpAnyH_take (i := 20) (oi := ⟨some 41, _, _, _, _, none⟩) (v := ?_) rfl (by kernel_rfl) (by kernel_rfl) (by kernel_rfl) (fun _ _ _ h => h) (Or.inl ⟨by rfl, ?_⟩) (by assumption) ?_
        rotate_left
        · intro w hSw; (try dsimp only at hSw); go_simp; (try with_reducible rfl)
        try simp only [Act.put, List.setIfInBounds_toArray, List.set_cons_zero, List.set_cons_succ]
        refine wpAnyH_take (i := 21) (oi := ⟨some 42, _, _, _, _, none⟩) (v := ?_) rfl (by kernel_rfl) (by kernel_rfl) (by kernel_rfl) (fun _ _ _ h => h) (Or.inl ⟨by rfl, ?_⟩) (by assumption) ?_
        rotate_left
        · intro w hSw; (try dsimp only at hSw); go_simp; (try with_reducible rfl)
        try simp only [Act.put, List.setIfInBounds_toArray, List.set_cons_zero, List.set_cons_succ]
        refine wpAnyH_ready (rs := [23]) (by kernel_rfl) (by simp) ?_
        refine AllReadyH.cons (o := ⟨none, .store 35 (.tmp 6) (.tmp 42), _, _, _, none⟩) rfl (fun K hK => ?_) AllReadyH.nil
        refine wanted_mp rfl ?_
        have th : w2.there b 0 3 := Blk.there ZB.out
        refine wp_store_mid _ _ _ rfl b 0 #[.int .u64 X1, .int .u64 X2, .int .u32 X3] rfl rfl th (by kernel_rfl) (by simp [Value.oneCell']) ?_
        (try simp only [List.toList_toArray])
        have F1 : Hid (Blk (w2.setCells b 0 [.int .u64 X1, .int .u64 X2, .int .u32 X3]) b [.int .u64 X1, .int .u64 X2, .int .u32 X3] 35 ∧ OL 35 3 eA (w2.setCells b 0 [.int .u64 X1, .int .u64 X2, .int .u32 X3]) w.heap.size u4 (areasL B k) ∧ Below w.heap.size w (w2.setCells b 0 [.int .u64 X1, .int .u64 X2, .int .u32 X3])) := ⟨((Blk.set ZB.out 0 (.int .u64 X1)).set 1 (.int .u64 X2)).set 2 (.int .u32 X3), row_keep JV.out.1 (fun g e => blk_scs _ (RB.out.2 g e) _ _), ((JV.out.2.setCell (p := ⟨b, 0, none⟩) RB.out.1 _).setCell (p := ⟨b, 1, none⟩) RB.out.1 _).setCell (p := ⟨b, 2, none⟩) RB.out.1 _⟩
        have HS2 : Hid (∀ i, i < 20 → (w2.setCells b 0 [.int .u64 X1, .int .u64 X2, .int .u32 X3]).cell? ⟨g, o + a + i, none⟩ = some (.int .u8 (B (a + i)))) := fun i hi => by
          rw [World.cell?_of_block (w := w2) (blk_scs _ (fun (q : g = b) => by have := LG.out; have := RB.out.1; omega) _ _)]; exact hHeld i hi
        generalize w2.setCells b 0 [.int .u64 X1, .int .u64 X2, .int .u32 X3] = V at *
        refine hK.out _ _ HS2.out (fun hHeld2 => ?_)
        clear hK K hHeld th ZB JV RB HS2
        have hHeld := hHeld2
        clear hHeld2
        try simp only [Act.put, List.setIfInBounds_toArray, List.set_cons_zero, List.set_cons_succ]
        clear hHeld
        refine wpAnyH_done (by kernel_rfl) ?_ _
        refine NoPanic.normal ?_
        go_wp2_with fail
        go_meet
        exact ⟨b, rfl, F1⟩
    obtain ⟨b, rfl, F1⟩ := hcut
    generalize wc = V at F1 ⊢
    obtain ⟨z0, z1, z2⟩ : V.cell? ⟨b, 0, none⟩ = some (.int .u64 X1) ∧ V.cell? ⟨b, 1, none⟩ = some (.int .u64 X2) ∧ V.cell? ⟨b, 2, none⟩ = some (.int .u32 X3) := ⟨F1.out.1.cell 0, F1.out.1.cell 1, F1.out.1.cell 2⟩
    have w2' : IntKind.u64.wrap (18446744073709551615 - X2) = 18446744073709551615 - X2 := by rw [IntKind.wrap_u64, Int.emod_eq_of_lt (by omega) (by omega)]
    by_cases cf : X1 + X2 < 18446744073709551616
    rotate_left
    · have g1 : decide (0 < X2) = true := decide_eq_true (by omega)
      have g2 : decide (18446744073709551615 - X2 < X1) = true := decide_eq_true (by omega)
      have NF : Hid (¬ Fit ⟨X1, X2, X3⟩) := fun h => cf (HFI.out.1 h)
      go_wp2_with fail
      go_returns
      exact ⟨Or.inr ⟨rfl, _, IN.out, NF.out⟩, F1.out.2.2⟩
    · have g2 : decide (18446744073709551615 - X2 < X1) = false := decide_eq_false (by omega)
      obtain ⟨v', W2, r, ho, hg, hat⟩ := app_row eA_len eA_one (by decide) Try.underlying28 infoQ rfl (by decide) w.heap.size u4 (areasL B k) ⟨X1, X2, X3⟩ (by rw [areas_len]; omega) V F1.out.2.1 F1.out.2.2.size
      have N1 : Hid (OL 35 3 eA W2 w.heap.size v' (areasL B (k + 1)) ∧ Below w.heap.size w W2) := ⟨by rw [NX.out]; exact ho, (below_new F1.out.2.2 _).grown hg (by rw [World.size_alloc]; have := F1.out.2.2.size; omega) (fun g e => (row_lt F1.out.2.1 g e).1)⟩
      have N2 : Hid (∀ x ∈ areasL B (k + 1), Fit x) := fun x hx => by
        rw [NX.out] at hx
        rcases List.mem_append.1 hx with h | h
        · exact JF.out x h
        · rw [List.mem_singleton.1 h]; exact HFI.out.2 cf
      clear ho hg hat F1 JF IN HFI
      by_cases c0 : 0 < X2
      · have g1 : decide (0 < X2) = true := decide_eq_true c0
        go_wp2_with (at_builtin; refine wpList_app rfl _ _ 28 rfl u4 (.slice (some ⟨V.heap.size, 0, none⟩) 1 1) rfl rfl v' W2 r ?_)
        go_roundw
        case rel => exact ⟨k + 1, a + 20, by omega, by have := AN.out; show _ = _; omega, by go_num, N1, N2⟩
        case measure => simp [Go.RowKit.intOf]; omega
      · have g1 : decide (0 < X2) = false := decide_eq_false c0
        go_wp2_with (at_builtin; refine wpList_app rfl _ _ 28 rfl u4 (.slice (some ⟨V.heap.size, 0, none⟩) 1 1) rfl rfl v' W2 r ?_)
        go_roundw
        case rel => exact ⟨k + 1, a + 20, by omega, by have := AN.out; show _ = _; omega, by go_num, N1, N2⟩
        case measure => simp [Go.RowKit.intOf]; omega
theorem rparse_any (g o n c : Nat) (B : Nat → Int) (hB : ∀ i, 0 ≤ B i ∧ B i < 256) (hc : n ≤ c) (w : World) (lg : g < w.heap.size) (hcs : ∀ i, i < n → w.cell? ⟨g, o + i, none⟩ = some (.int .u8 (B i))) :
    Calls Try.prog 11 #[.slice (some ⟨g, o, none⟩) n c] w fun e w' => ∃ v' z A, e = .returned (.tuple #[v', .int .i64 z]) ∧ LL 3 eA w' w.heap.size v' A ∧ PZ B n z A ∧ Below w.heap.size w w' := by
  by_cases h1 : 1280 < n
  · refine (rparse_big (some ⟨g, o, none⟩) n c h1 w).mono ?_
    rintro e w' ⟨rfl, hb⟩
    exact ⟨_, 4, [], rfl, ll_nil _ _ _ _, Or.inl ⟨h1, rfl, rfl⟩, hb⟩
  · by_cases h2 : n % 20 ≠ 0
    · refine (rparse_end (some ⟨g, o, none⟩) n c (by omega) h2 w).mono ?_
      rintro e w' ⟨rfl, hb⟩
      exact ⟨_, 14, [], rfl, ll_nil _ _ _ _, Or.inr (Or.inl ⟨by omega, h2, rfl, rfl⟩), hb⟩
    · refine (rparse_loop g o (n / 20) n c B hB (by omega) (by omega) hc w lg hcs).mono ?_
      rintro e w' ⟨⟨v', rfl, ho, hf⟩ | ⟨rfl, hx⟩, hb⟩
      · exact ⟨v', 0, _, rfl, ol_ll eA_len ho, Or.inr (Or.inr (Or.inr ⟨by omega, by omega, hf, rfl, rfl⟩)), hb⟩
      · exact ⟨_, 3, [], rfl, ll_nil _ _ _ _, Or.inr (Or.inr (Or.inl ⟨by omega, by omega, hx, rfl, rfl⟩)), hb⟩
end Go.Proofs.Ytkgjeemecpigpaa.Bm
