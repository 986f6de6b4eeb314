/- Words of a call: pages, page, perm, place, sized. -/
import Derived.Test.YtccbacjiiffheaaC0
namespace Go.Proofs.Ytccbacjiiffheaa
open Go.ChangeShapes Go.WideShapes Go.ChangeAt Go.RowKit Go.Maps
set_option linter.unusedSimpArgs false
set_option linter.unusedVariables false

theorem range_info : (Try.prog.info? 26).map (·.size) = some 2 := by kernel_rfl
theorem perm_info : (Try.prog.info? 28).map (·.size) = some 3 := by kernel_rfl
set_option maxHeartbeats 1000000 in
theorem page_yes (b : Nat) (W : Wd) (k : Nat) (hk : k + 1 ≤ 6) (hw : W.wf) (hl : W.at k < 34359738368) (w : World) (h : IsR w b W k) : Calls Try.prog 35 #[.pointer (some ⟨b, 0, none⟩)] w fun e w' => e = .returned (.agg #[.int .i64 (W.at k), .int .i64 (W.at k + 1)]) ∧ IsR w' b W (k + 1) ∧ Kb b w w' := by
  have N1 : Hid (∀ w : World, IsR w b W (k) → Calls Try.prog 30 #[.pointer (some ⟨b, 0, none⟩), .int .u64 34359738368] w fun e w' => e = .returned (.int .i64 (W.at (k))) ∧ IsR w' b W (k + 1) ∧ Kb b w w') := fun w h => number_yes b W (k) (by omega) hw 34359738368 (by omega) hl w h
  have H0 : Hid (IsR w b W k) := h
  have lt0 := blk_lt h
  clear h
  have p0 := (hw k).1
  clear hw
  generalize W.at k = x at *
  have A0 : Hid (IsR (w.alloc (.cells [.int .i64 0, .int .i64 0].toArray 26)) b W k) := H0.out.below (Go.Joins.below_alloc1 _ _)
  have Z0 : Hid (Blk (w.alloc (.cells [.int .i64 0, .int .i64 0].toArray 26)) w.heap.size [.int .i64 0, .int .i64 0] 26) := Blk.made w _ _
  have K0 : Hid (Kb b w (w.alloc (.cells [.int .i64 0, .int .i64 0].toArray 26))) := kb_alloc b w _
  go_enter Try.func35, Try.ntmps35
  go_wp2_with fail
  refine (N1.out _ A0.out).mono ?_
  rintro e u1 ⟨rfl, h1, k1⟩
  have A1 : Hid (IsR u1 b W (k + 1)) := h1
  have K1 : Hid (Kb b w u1) := K0.out.trans k1
  have Z1 : Hid (Blk u1 w.heap.size [.int .i64 0, .int .i64 0] 26) := Z0.out.kb k1 (by omega)
  clear h1 k1 A0 K0 Z0
  have yc0 : u1.cell? ⟨w.heap.size, 0, none⟩ = some (.int .i64 0) := Z1.out.cell 0
  have yf0 : u1.frozen? ⟨w.heap.size, 0, none⟩ = false := Z1.out.free 0
  have yc1 : u1.cell? ⟨w.heap.size, 1, none⟩ = some (.int .i64 0) := Z1.out.cell 1
  have yf1 : u1.frozen? ⟨w.heap.size, 1, none⟩ = false := Z1.out.free 1
  have y4 : w.heap.size < u1.heap.size := blk_lt Z1.out
  go_wp2_with fail
  change bodyPost _ _ _ _ _ (u1.setCells w.heap.size 0 [.int .i64 x, .int .i64 (x + 1)])
  have hr := run_loadVar_mid (P := Try.prog) (u1.setCells w.heap.size 0 [.int .i64 x, .int .i64 (x + 1)]) w.heap.size 0 26 [.int .i64 x, .int .i64 (x + 1)] _ (World.rangeAt_setCells_same _ w.heap.size 0 [.int .i64 x, .int .i64 (x + 1)] (show u1.there w.heap.size 0 2 from Z1.out.there)) Try.underlying26 rfl range_info
  refine bodyPost_ret (v := .agg #[.int .i64 x, .int .i64 (x + 1)]) ?_ rfl ⟨rfl, A1.out.scs (by omega) _ _, kb_scs K1.out (Nat.le_refl _) _ _⟩
  exact results_one Try.results35 _ _ _ _ _ rfl hr
set_option maxHeartbeats 1000000 in
theorem page_no (b : Nat) (W : Wd) (k : Nat) (hk : k + 1 ≤ 6) (hw : W.wf) (hl : ¬ W.at k < 34359738368) (w : World) (h : IsR w b W k) : Calls Try.prog 35 #[.pointer (some ⟨b, 0, none⟩)] w fun e w' => e = .panicked [refv] ∧ Kb b w w' := by
  have N1 : Hid (∀ w : World, IsR w b W (k) → Calls Try.prog 30 #[.pointer (some ⟨b, 0, none⟩), .int .u64 34359738368] w fun e w' => e = .panicked [refv] ∧ Kb b w w') := fun w h => number_no b W (k) (by omega) 34359738368 hl w h
  have H0 : Hid (IsR w b W k) := h
  have lt0 := blk_lt h
  clear h
  clear hw
  have A0 : Hid (IsR (w.alloc (.cells [.int .i64 0, .int .i64 0].toArray 26)) b W k) := H0.out.below (Go.Joins.below_alloc1 _ _)
  have Z0 : Hid (Blk (w.alloc (.cells [.int .i64 0, .int .i64 0].toArray 26)) w.heap.size [.int .i64 0, .int .i64 0] 26) := Blk.made w _ _
  have K0 : Hid (Kb b w (w.alloc (.cells [.int .i64 0, .int .i64 0].toArray 26))) := kb_alloc b w _
  go_enter Try.func35, Try.ntmps35
  go_wp2_with fail
  refine (N1.out _ A0.out).mono ?_
  rintro e u9 ⟨rfl, k1⟩
  exact ⟨rfl, rfl, K0.out.trans k1⟩
/-- two words that are pages -/
def pagesOk (a n : Int) : Prop := a < 34359738368 ∧ n < 65537 ∧ 0 < n ∧ a + n ≤ 34359738368
instance (a n : Int) : Decidable (pagesOk a n) := by unfold pagesOk; infer_instance
set_option maxHeartbeats 1000000 in
theorem pages_yes (b : Nat) (W : Wd) (k : Nat) (hk : k + 2 ≤ 6) (hw : W.wf) (hl : pagesOk (W.at k) (W.at (k + 1))) (w : World) (h : IsR w b W k) : Calls Try.prog 31 #[.pointer (some ⟨b, 0, none⟩)] w fun e w' => e = .returned (.agg #[.int .i64 (W.at k), .int .i64 (W.at k + W.at (k + 1))]) ∧ IsR w' b W (k + 2) ∧ Kb b w w' := by
  obtain ⟨l1, l2, l3, l4⟩ := hl
  have N1 : Hid (∀ w : World, IsR w b W (k) → Calls Try.prog 30 #[.pointer (some ⟨b, 0, none⟩), .int .u64 34359738368] w fun e w' => e = .returned (.int .i64 (W.at (k))) ∧ IsR w' b W (k + 1) ∧ Kb b w w') := fun w h => number_yes b W (k) (by omega) hw 34359738368 (by omega) l1 w h
  have N2 : Hid (∀ w : World, IsR w b W (k + 1) → Calls Try.prog 30 #[.pointer (some ⟨b, 0, none⟩), .int .u64 65537] w fun e w' => e = .returned (.int .i64 (W.at (k + 1))) ∧ IsR w' b W (k + 1 + 1) ∧ Kb b w w') := fun w h => number_yes b W (k + 1) (by omega) hw 65537 (by omega) l2 w h
  have IY : Hid (∀ w : World, Calls Try.prog 38 #[.bool true] w fun e w' => e = .returned (.tuple #[]) ∧ w' = w) := insist_yes
  have H0 : Hid (IsR w b W k) := h
  have lt0 := blk_lt h
  clear h
  have p0 := (hw k).1
  have p1 := (hw (k + 1)).1
  clear hw
  generalize W.at k = x at *
  generalize W.at (k + 1) = y at *
  have d1 : decide (0 < y) = true := by simp; omega
  have d2 : decide (x + y ≤ 34359738368) = true := by simp; omega
  have A0 : Hid (IsR (w.alloc (.cells [.int .i64 0, .int .i64 0].toArray 26)) b W k) := H0.out.below (Go.Joins.below_alloc1 _ _)
  have Z0 : Hid (Blk (w.alloc (.cells [.int .i64 0, .int .i64 0].toArray 26)) w.heap.size [.int .i64 0, .int .i64 0] 26) := Blk.made w _ _
  have K0 : Hid (Kb b w (w.alloc (.cells [.int .i64 0, .int .i64 0].toArray 26))) := kb_alloc b w _
  go_enter Try.func31, Try.ntmps31
  go_wp2_with fail
  refine (N1.out _ A0.out).mono ?_
  rintro e u1 ⟨rfl, h1, k1⟩
  have A1 : Hid (IsR u1 b W (k + 1)) := h1
  have K1 : Hid (Kb b w u1) := K0.out.trans k1
  have Z1 : Hid (Blk u1 w.heap.size [.int .i64 0, .int .i64 0] 26) := Z0.out.kb k1 (by omega)
  clear h1 k1 A0 K0 Z0
  go_wp2_with fail
  refine (N2.out _ A1.out).mono ?_
  rintro e u2 ⟨rfl, h1, k1⟩
  have A2 : Hid (IsR u2 b W (k + 1 + 1)) := h1
  have K2 : Hid (Kb b w u2) := K1.out.trans k1
  have Z2 : Hid (Blk u2 w.heap.size [.int .i64 0, .int .i64 0] 26) := Z1.out.kb k1 (by omega)
  clear h1 k1 A1 K1 Z1
  have yc0 : u2.cell? ⟨w.heap.size, 0, none⟩ = some (.int .i64 0) := Z2.out.cell 0
  have yf0 : u2.frozen? ⟨w.heap.size, 0, none⟩ = false := Z2.out.free 0
  have yc1 : u2.cell? ⟨w.heap.size, 1, none⟩ = some (.int .i64 0) := Z2.out.cell 1
  have yf1 : u2.frozen? ⟨w.heap.size, 1, none⟩ = false := Z2.out.free 1
  have y4 : w.heap.size < u2.heap.size := blk_lt Z2.out
  go_wp2_with fail
  refine (IY.out _).mono ?_
  rintro e u8 ⟨rfl, hu⟩
  have hu2 := hu.symm
  subst hu2
  go_wp2_with fail
  change bodyPost _ _ _ _ _ (u2.setCells w.heap.size 0 [.int .i64 x, .int .i64 (x + y)])
  have hr := run_loadVar_mid (P := Try.prog) (u2.setCells w.heap.size 0 [.int .i64 x, .int .i64 (x + y)]) w.heap.size 0 26 [.int .i64 x, .int .i64 (x + y)] _ (World.rangeAt_setCells_same _ w.heap.size 0 [.int .i64 x, .int .i64 (x + y)] (show u2.there w.heap.size 0 2 from Z2.out.there)) Try.underlying26 rfl range_info
  refine bodyPost_ret (v := .agg #[.int .i64 x, .int .i64 (x + y)]) ?_ rfl ⟨rfl, A2.out.scs (by omega) _ _, kb_scs K2.out (Nat.le_refl _) _ _⟩
  exact results_one Try.results31 _ _ _ _ _ rfl hr
set_option maxHeartbeats 1000000 in
theorem pages_no (b : Nat) (W : Wd) (k : Nat) (hk : k + 2 ≤ 6) (hw : W.wf) (hl : ¬ pagesOk (W.at k) (W.at (k + 1))) (w : World) (h : IsR w b W k) : Calls Try.prog 31 #[.pointer (some ⟨b, 0, none⟩)] w fun e w' => e = .panicked [refv] ∧ Kb b w w' := by
  by_cases l1 : W.at k < 34359738368
  rotate_left
  · have N1 : Hid (∀ w : World, IsR w b W (k) → Calls Try.prog 30 #[.pointer (some ⟨b, 0, none⟩), .int .u64 34359738368] w fun e w' => e = .panicked [refv] ∧ Kb b w w') := fun w h => number_no b W (k) (by omega) 34359738368 l1 w h
    have H0 : Hid (IsR w b W k) := h
    have lt0 := blk_lt h
    clear h
    clear hw
    have A0 : Hid (IsR (w.alloc (.cells [.int .i64 0, .int .i64 0].toArray 26)) b W k) := H0.out.below (Go.Joins.below_alloc1 _ _)
    have Z0 : Hid (Blk (w.alloc (.cells [.int .i64 0, .int .i64 0].toArray 26)) w.heap.size [.int .i64 0, .int .i64 0] 26) := Blk.made w _ _
    have K0 : Hid (Kb b w (w.alloc (.cells [.int .i64 0, .int .i64 0].toArray 26))) := kb_alloc b w _
    go_enter Try.func31, Try.ntmps31
    go_wp2_with fail
    refine (N1.out _ A0.out).mono ?_
    rintro e u9 ⟨rfl, k1⟩
    exact ⟨rfl, rfl, K0.out.trans k1⟩
  have N1 : Hid (∀ w : World, IsR w b W (k) → Calls Try.prog 30 #[.pointer (some ⟨b, 0, none⟩), .int .u64 34359738368] w fun e w' => e = .returned (.int .i64 (W.at (k))) ∧ IsR w' b W (k + 1) ∧ Kb b w w') := fun w h => number_yes b W (k) (by omega) hw 34359738368 (by omega) l1 w h
  by_cases l2 : W.at (k + 1) < 65537
  rotate_left
  · have N2 : Hid (∀ w : World, IsR w b W (k + 1) → Calls Try.prog 30 #[.pointer (some ⟨b, 0, none⟩), .int .u64 65537] w fun e w' => e = .panicked [refv] ∧ Kb b w w') := fun w h => number_no b W (k + 1) (by omega) 65537 l2 w h
    have H0 : Hid (IsR w b W k) := h
    have lt0 := blk_lt h
    clear h
    clear hw
    have A0 : Hid (IsR (w.alloc (.cells [.int .i64 0, .int .i64 0].toArray 26)) b W k) := H0.out.below (Go.Joins.below_alloc1 _ _)
    have Z0 : Hid (Blk (w.alloc (.cells [.int .i64 0, .int .i64 0].toArray 26)) w.heap.size [.int .i64 0, .int .i64 0] 26) := Blk.made w _ _
    have K0 : Hid (Kb b w (w.alloc (.cells [.int .i64 0, .int .i64 0].toArray 26))) := kb_alloc b w _
    go_enter Try.func31, Try.ntmps31
    go_wp2_with fail
    refine (N1.out _ A0.out).mono ?_
    rintro e u1 ⟨rfl, h1, k1⟩
    have A1 : Hid (IsR u1 b W (k + 1)) := h1
    have K1 : Hid (Kb b w u1) := K0.out.trans k1
    have Z1 : Hid (Blk u1 w.heap.size [.int .i64 0, .int .i64 0] 26) := Z0.out.kb k1 (by omega)
    clear h1 k1 A0 K0 Z0
    go_wp2_with fail
    refine (N2.out _ A1.out).mono ?_
    rintro e u9 ⟨rfl, k1⟩
    exact ⟨rfl, rfl, K1.out.trans k1⟩
  have N2 : Hid (∀ w : World, IsR w b W (k + 1) → Calls Try.prog 30 #[.pointer (some ⟨b, 0, none⟩), .int .u64 65537] w fun e w' => e = .returned (.int .i64 (W.at (k + 1))) ∧ IsR w' b W (k + 1 + 1) ∧ Kb b w w') := fun w h => number_yes b W (k + 1) (by omega) hw 65537 (by omega) l2 w h
  have IN : Hid (∀ w : World, Calls Try.prog 38 #[.bool false] w fun e w' => e = .panicked [refv] ∧ w' = w) := insist_no
  have H0 : Hid (IsR w b W k) := h
  have lt0 := blk_lt h
  clear h
  have p0 := (hw k).1
  have p1 := (hw (k + 1)).1
  have hl2 : ¬ (0 < W.at (k + 1) ∧ W.at k + W.at (k + 1) ≤ 34359738368) := fun z => hl ⟨l1, l2, z.1, z.2⟩
  clear hw hl
  generalize W.at k = x at *
  generalize W.at (k + 1) = y at *
  have A0 : Hid (IsR (w.alloc (.cells [.int .i64 0, .int .i64 0].toArray 26)) b W k) := H0.out.below (Go.Joins.below_alloc1 _ _)
  have Z0 : Hid (Blk (w.alloc (.cells [.int .i64 0, .int .i64 0].toArray 26)) w.heap.size [.int .i64 0, .int .i64 0] 26) := Blk.made w _ _
  have K0 : Hid (Kb b w (w.alloc (.cells [.int .i64 0, .int .i64 0].toArray 26))) := kb_alloc b w _
  by_cases d : 0 < y
  · have d1 : decide (0 < y) = true := by simp [d]
    have d2 : decide (x + y ≤ 34359738368) = false := by simp; omega
    go_enter Try.func31, Try.ntmps31
    go_wp2_with fail
    refine (N1.out _ A0.out).mono ?_
    rintro e u1 ⟨rfl, h1, k1⟩
    have A1 : Hid (IsR u1 b W (k + 1)) := h1
    have K1 : Hid (Kb b w u1) := K0.out.trans k1
    have Z1 : Hid (Blk u1 w.heap.size [.int .i64 0, .int .i64 0] 26) := Z0.out.kb k1 (by omega)
    clear h1 k1 A0 K0 Z0
    go_wp2_with fail
    refine (N2.out _ A1.out).mono ?_
    rintro e u2 ⟨rfl, h1, k1⟩
    have A2 : Hid (IsR u2 b W (k + 1 + 1)) := h1
    have K2 : Hid (Kb b w u2) := K1.out.trans k1
    have Z2 : Hid (Blk u2 w.heap.size [.int .i64 0, .int .i64 0] 26) := Z1.out.kb k1 (by omega)
    clear h1 k1 A1 K1 Z1
    go_wp2_with fail
    refine (IN.out _).mono ?_
    rintro e u8 ⟨rfl, hu⟩
    have hu2 := hu.symm
    subst hu2
    exact ⟨rfl, rfl, K2.out⟩
  · have d1 : decide (0 < y) = false := by simp; omega
    go_enter Try.func31, Try.ntmps31
    go_wp2_with fail
    refine (N1.out _ A0.out).mono ?_
    rintro e u1 ⟨rfl, h1, k1⟩
    have A1 : Hid (IsR u1 b W (k + 1)) := h1
    have K1 : Hid (Kb b w u1) := K0.out.trans k1
    have Z1 : Hid (Blk u1 w.heap.size [.int .i64 0, .int .i64 0] 26) := Z0.out.kb k1 (by omega)
    clear h1 k1 A0 K0 Z0
    go_wp2_with fail
    refine (N2.out _ A1.out).mono ?_
    rintro e u2 ⟨rfl, h1, k1⟩
    have A2 : Hid (IsR u2 b W (k + 1 + 1)) := h1
    have K2 : Hid (Kb b w u2) := K1.out.trans k1
    have Z2 : Hid (Blk u2 w.heap.size [.int .i64 0, .int .i64 0] 26) := Z1.out.kb k1 (by omega)
    clear h1 k1 A1 K1 Z1
    go_wp2_with fail
    refine (IN.out _).mono ?_
    rintro e u8 ⟨rfl, hu⟩
    have hu2 := hu.symm
    subst hu2
    exact ⟨rfl, rfl, K2.out⟩
/-- what the bits of a word say -/
def permW (x : Int) : Bool := decide (x % 2 = 1)
def permX (x : Int) : Bool := decide (2 ≤ x)
set_option maxHeartbeats 1000000 in
theorem perm_yes (b : Nat) (W : Wd) (k : Nat) (hk : k + 1 ≤ 6) (hw : W.wf) (hl : W.at k < 4) (w : World) (h : IsR w b W k) : Calls Try.prog 32 #[.pointer (some ⟨b, 0, none⟩)] w fun e w' => e = .returned (.agg #[.bool (permW (W.at k)), .bool true, .bool (permX (W.at k))]) ∧ IsR w' b W (k + 1) ∧ Kb b w w' := by
  have N1 : Hid (∀ w : World, IsR w b W (k) → Calls Try.prog 36 #[.pointer (some ⟨b, 0, none⟩), .int .u64 4] w fun e w' => e = .returned (.int .u64 (W.at (k))) ∧ IsR w' b W (k + 1) ∧ Kb b w w') := fun w h => below_yes b W (k) (by omega) 4 hl w h
  have H0 : Hid (IsR w b W k) := h
  have lt0 := blk_lt h
  clear h
  have p0 := (hw k).1
  clear hw
  generalize W.at k = x at *
  have A0 : Hid (IsR (w.alloc (.cells [.bool false, .bool false, .bool false].toArray 28)) b W k) := H0.out.below (Go.Joins.below_alloc1 _ _)
  have Z0 : Hid (Blk (w.alloc (.cells [.bool false, .bool false, .bool false].toArray 28)) w.heap.size [.bool false, .bool false, .bool false] 28) := Blk.made w _ _
  have K0 : Hid (Kb b w (w.alloc (.cells [.bool false, .bool false, .bool false].toArray 28))) := kb_alloc b w _
  have hx : x = 0 ∨ x = 1 ∨ x = 2 ∨ x = 3 := by omega
  rcases hx with rfl | rfl | rfl | rfl
  · go_enter Try.func32, Try.ntmps32
    go_wp2_with fail
    refine (N1.out _ A0.out).mono ?_
    rintro e u1 ⟨rfl, h1, k1⟩
    have A1 : Hid (IsR u1 b W (k + 1)) := h1
    have K1 : Hid (Kb b w u1) := K0.out.trans k1
    have Z1 : Hid (Blk u1 w.heap.size [.bool false, .bool false, .bool false] 28) := Z0.out.kb k1 (by omega)
    clear h1 k1 A0 K0 Z0
    have yc0 : u1.cell? ⟨w.heap.size, 0, none⟩ = some (.bool false) := Z1.out.cell 0
    have yf0 : u1.frozen? ⟨w.heap.size, 0, none⟩ = false := Z1.out.free 0
    have yc1 : u1.cell? ⟨w.heap.size, 1, none⟩ = some (.bool false) := Z1.out.cell 1
    have yf1 : u1.frozen? ⟨w.heap.size, 1, none⟩ = false := Z1.out.free 1
    have yc2 : u1.cell? ⟨w.heap.size, 2, none⟩ = some (.bool false) := Z1.out.cell 2
    have yf2 : u1.frozen? ⟨w.heap.size, 2, none⟩ = false := Z1.out.free 2
    have y4 : w.heap.size < u1.heap.size := blk_lt Z1.out
    go_wp2_with fail
    change bodyPost _ _ _ _ _ (u1.setCells w.heap.size 0 [.bool false, .bool true, .bool false])
    have hr := run_loadVar_mid (P := Try.prog) (u1.setCells w.heap.size 0 [.bool false, .bool true, .bool false]) w.heap.size 0 28 [.bool false, .bool true, .bool false] _ (World.rangeAt_setCells_same _ w.heap.size 0 [.bool false, .bool true, .bool false] (show u1.there w.heap.size 0 3 from Z1.out.there)) Try.underlying28 rfl perm_info
    refine bodyPost_ret (v := .agg #[.bool false, .bool true, .bool false]) ?_ rfl ⟨rfl, A1.out.scs (by omega) _ _, kb_scs K1.out (Nat.le_refl _) _ _⟩
    exact results_one Try.results32 _ _ _ _ _ rfl hr
  · go_enter Try.func32, Try.ntmps32
    go_wp2_with fail
    refine (N1.out _ A0.out).mono ?_
    rintro e u1 ⟨rfl, h1, k1⟩
    have A1 : Hid (IsR u1 b W (k + 1)) := h1
    have K1 : Hid (Kb b w u1) := K0.out.trans k1
    have Z1 : Hid (Blk u1 w.heap.size [.bool false, .bool false, .bool false] 28) := Z0.out.kb k1 (by omega)
    clear h1 k1 A0 K0 Z0
    have yc0 : u1.cell? ⟨w.heap.size, 0, none⟩ = some (.bool false) := Z1.out.cell 0
    have yf0 : u1.frozen? ⟨w.heap.size, 0, none⟩ = false := Z1.out.free 0
    have yc1 : u1.cell? ⟨w.heap.size, 1, none⟩ = some (.bool false) := Z1.out.cell 1
    have yf1 : u1.frozen? ⟨w.heap.size, 1, none⟩ = false := Z1.out.free 1
    have yc2 : u1.cell? ⟨w.heap.size, 2, none⟩ = some (.bool false) := Z1.out.cell 2
    have yf2 : u1.frozen? ⟨w.heap.size, 2, none⟩ = false := Z1.out.free 2
    have y4 : w.heap.size < u1.heap.size := blk_lt Z1.out
    go_wp2_with fail
    change bodyPost _ _ _ _ _ (u1.setCells w.heap.size 0 [.bool true, .bool true, .bool false])
    have hr := run_loadVar_mid (P := Try.prog) (u1.setCells w.heap.size 0 [.bool true, .bool true, .bool false]) w.heap.size 0 28 [.bool true, .bool true, .bool false] _ (World.rangeAt_setCells_same _ w.heap.size 0 [.bool true, .bool true, .bool false] (show u1.there w.heap.size 0 3 from Z1.out.there)) Try.underlying28 rfl perm_info
    refine bodyPost_ret (v := .agg #[.bool true, .bool true, .bool false]) ?_ rfl ⟨rfl, A1.out.scs (by omega) _ _, kb_scs K1.out (Nat.le_refl _) _ _⟩
    exact results_one Try.results32 _ _ _ _ _ rfl hr
  · go_enter Try.func32, Try.ntmps32
    go_wp2_with fail
    refine (N1.out _ A0.out).mono ?_
    rintro e u1 ⟨rfl, h1, k1⟩
    have A1 : Hid (IsR u1 b W (k + 1)) := h1
    have K1 : Hid (Kb b w u1) := K0.out.trans k1
    have Z1 : Hid (Blk u1 w.heap.size [.bool false, .bool false, .bool false] 28) := Z0.out.kb k1 (by omega)
    clear h1 k1 A0 K0 Z0
    have yc0 : u1.cell? ⟨w.heap.size, 0, none⟩ = some (.bool false) := Z1.out.cell 0
    have yf0 : u1.frozen? ⟨w.heap.size, 0, none⟩ = false := Z1.out.free 0
    have yc1 : u1.cell? ⟨w.heap.size, 1, none⟩ = some (.bool false) := Z1.out.cell 1
    have yf1 : u1.frozen? ⟨w.heap.size, 1, none⟩ = false := Z1.out.free 1
    have yc2 : u1.cell? ⟨w.heap.size, 2, none⟩ = some (.bool false) := Z1.out.cell 2
    have yf2 : u1.frozen? ⟨w.heap.size, 2, none⟩ = false := Z1.out.free 2
    have y4 : w.heap.size < u1.heap.size := blk_lt Z1.out
    go_wp2_with fail
    change bodyPost _ _ _ _ _ (u1.setCells w.heap.size 0 [.bool false, .bool true, .bool true])
    have hr := run_loadVar_mid (P := Try.prog) (u1.setCells w.heap.size 0 [.bool false, .bool true, .bool true]) w.heap.size 0 28 [.bool false, .bool true, .bool true] _ (World.rangeAt_setCells_same _ w.heap.size 0 [.bool false, .bool true, .bool true] (show u1.there w.heap.size 0 3 from Z1.out.there)) Try.underlying28 rfl perm_info
    refine bodyPost_ret (v := .agg #[.bool false, .bool true, .bool true]) ?_ rfl ⟨rfl, A1.out.scs (by omega) _ _, kb_scs K1.out (Nat.le_refl _) _ _⟩
    exact results_one Try.results32 _ _ _ _ _ rfl hr
  · go_enter Try.func32, Try.ntmps32
    go_wp2_with fail
    refine (N1.out _ A0.out).mono ?_
    rintro e u1 ⟨rfl, h1, k1⟩
    have A1 : Hid (IsR u1 b W (k + 1)) := h1
    have K1 : Hid (Kb b w u1) := K0.out.trans k1
    have Z1 : Hid (Blk u1 w.heap.size [.bool false, .bool false, .bool false] 28) := Z0.out.kb k1 (by omega)
    clear h1 k1 A0 K0 Z0
    have yc0 : u1.cell? ⟨w.heap.size, 0, none⟩ = some (.bool false) := Z1.out.cell 0
    have yf0 : u1.frozen? ⟨w.heap.size, 0, none⟩ = false := Z1.out.free 0
    have yc1 : u1.cell? ⟨w.heap.size, 1, none⟩ = some (.bool false) := Z1.out.cell 1
    have yf1 : u1.frozen? ⟨w.heap.size, 1, none⟩ = false := Z1.out.free 1
    have yc2 : u1.cell? ⟨w.heap.size, 2, none⟩ = some (.bool false) := Z1.out.cell 2
    have yf2 : u1.frozen? ⟨w.heap.size, 2, none⟩ = false := Z1.out.free 2
    have y4 : w.heap.size < u1.heap.size := blk_lt Z1.out
    go_wp2_with fail
    change bodyPost _ _ _ _ _ (u1.setCells w.heap.size 0 [.bool true, .bool true, .bool true])
    have hr := run_loadVar_mid (P := Try.prog) (u1.setCells w.heap.size 0 [.bool true, .bool true, .bool true]) w.heap.size 0 28 [.bool true, .bool true, .bool true] _ (World.rangeAt_setCells_same _ w.heap.size 0 [.bool true, .bool true, .bool true] (show u1.there w.heap.size 0 3 from Z1.out.there)) Try.underlying28 rfl perm_info
    refine bodyPost_ret (v := .agg #[.bool true, .bool true, .bool true]) ?_ rfl ⟨rfl, A1.out.scs (by omega) _ _, kb_scs K1.out (Nat.le_refl _) _ _⟩
    exact results_one Try.results32 _ _ _ _ _ rfl hr
set_option maxHeartbeats 1000000 in
theorem perm_no (b : Nat) (W : Wd) (k : Nat) (hk : k + 1 ≤ 6) (hw : W.wf) (hl : ¬ W.at k < 4) (w : World) (h : IsR w b W k) : Calls Try.prog 32 #[.pointer (some ⟨b, 0, none⟩)] w fun e w' => e = .panicked [refv] ∧ Kb b w w' := by
  have N1 : Hid (∀ w : World, IsR w b W (k) → Calls Try.prog 36 #[.pointer (some ⟨b, 0, none⟩), .int .u64 4] w fun e w' => e = .panicked [refv] ∧ Kb b w w') := fun w h => below_no b W (k) (by omega) 4 hl w h
  have H0 : Hid (IsR w b W k) := h
  have lt0 := blk_lt h
  clear h
  clear hw
  have A0 : Hid (IsR (w.alloc (.cells [.bool false, .bool false, .bool false].toArray 28)) b W k) := H0.out.below (Go.Joins.below_alloc1 _ _)
  have Z0 : Hid (Blk (w.alloc (.cells [.bool false, .bool false, .bool false].toArray 28)) w.heap.size [.bool false, .bool false, .bool false] 28) := Blk.made w _ _
  have K0 : Hid (Kb b w (w.alloc (.cells [.bool false, .bool false, .bool false].toArray 28))) := kb_alloc b w _
  go_enter Try.func32, Try.ntmps32
  go_wp2_with fail
  refine (N1.out _ A0.out).mono ?_
  rintro e u9 ⟨rfl, k1⟩
  exact ⟨rfl, rfl, K0.out.trans k1⟩
end Go.Proofs.Ytccbacjiiffheaa
