/- Boot maps: an entry; an area's numbers. -/
import Derived.Test.YtpfcpmhpekidkaaO2
namespace Go.Proofs.Ytpfcpmhpekidkaa.Bm
open Go.ChangeShapes Go.WideShapes Go.ChangeAt Go.RowKit Go.Maps
set_option linter.unusedSimpArgs false
set_option linter.unusedVariables false
set_option maxRecDepth 8000

theorem wanted_mp {c : Prop} [Decidable c] {a b : Prop} (h : c) (ha : a) : if c then a else b := by rw [if_pos h]; exact ha
/-- the area of 20 bytes -/
def arB (B : Nat → Int) (a : Nat) : Ar := ⟨le B a 8, le B (a + 8) 8, le B (a + 16) 4⟩
set_option maxHeartbeats 1000000 in
theorem entry_any (g o c a : Nat) (B : Nat → Int) (hB : ∀ i, 0 ≤ B i ∧ B i < 256) (hcap : 20 ≤ c) (w : World) (hc : ∀ i, i < 20 → w.cell? ⟨g, o + i, none⟩ = some (.int .u8 (B (a + i)))) (hg : g < w.heap.size) :
    Calls Try.prog 53 #[.slice (some ⟨g, o, none⟩) 20 c] w fun e w' => e = .returned (.agg (eA (arB B a)).toArray) ∧ Below w.heap.size w w' := by
  have hc2 : ∀ i, i < 20 → (w.alloc (.cells #[.int .u64 0, .int .u64 0, .int .u32 0] 57)).cell? ⟨g, o + i, none⟩ = some (.int .u8 (B (a + i))) := fun i hi => by
    rw [World.cell?_alloc_past _ _ _ hg]; exact hc i hi
  have C1 : ∀ W : World, (∀ i, i < 20 → W.cell? ⟨g, o + i, none⟩ = some (.int .u8 (B (a + i)))) → _ := fun W h => number_any g o 8 c a B hB (by omega) W (fun i hi => h i (by omega))
  have C2 : ∀ W : World, (∀ i, i < 20 → W.cell? ⟨g, o + i, none⟩ = some (.int .u8 (B (a + i)))) → _ := fun W h => number_any g (o + 8) 8 (c - 8) (a + 8) B hB (by omega) W (fun i hi => by rw [Nat.add_assoc o, Nat.add_assoc a]; exact h (8 + i) (by omega))
  have C3 : ∀ W : World, (∀ i, i < 20 → W.cell? ⟨g, o + i, none⟩ = some (.int .u8 (B (a + i)))) → _ := fun W h => number_any g (o + 16) 4 (c - 16) (a + 16) B hB (by omega) W (fun i hi => by rw [Nat.add_assoc o, Nat.add_assoc a]; exact h (16 + i) (by omega))
  have x1 := le_bd hB a 8
  have x2 := le_bd hB (a + 8) 8
  have x3 := le_bd hB (a + 16) 4
  show Calls Try.prog 53 #[.slice (some ⟨g, o, none⟩) 20 c] w fun e w' => e = .returned (.agg #[.int .u64 (le B a 8), .int .u64 (le B (a + 8) 8), .int .u32 (le B (a + 16) 4)]) ∧ Below w.heap.size w w'
  generalize le B a 8 = X1 at *
  generalize le B (a + 8) 8 = X2 at *
  generalize le B (a + 16) 4 = X3 at *
  have u3 : IntKind.u32.wrap X3 = X3 := by rw [IntKind.wrap_u32, Int.emod_eq_of_lt (by omega) (by omega)]
  have d1 : decide ((8 : Int) ≤ (c : Int)) = true := by simp; omega
  have d2 : decide ((16 : Int) ≤ (c : Int)) = true := by simp; omega
  have d3 : decide ((20 : Int) ≤ (c : Int)) = true := by simp; omega
  have HC1 : Hid _ := C1
  have HC2 : Hid _ := C2
  have HC3 : Hid _ := C3
  have HS : Hid (∀ i, i < 20 → (w.alloc (.cells #[.int .u64 0, .int .u64 0, .int .u32 0] 57)).cell? ⟨g, o + i, none⟩ = some (.int .u8 (B (a + i)))) := hc2
  have ZB : Hid (Blk (w.alloc (.cells #[.int .u64 0, .int .u64 0, .int .u32 0] 57)) w.heap.size [.int .u64 0, .int .u64 0, .int .u32 0] 57) := Blk.made w [.int .u64 0, .int .u64 0, .int .u32 0] 57
  obtain ⟨b, hbb⟩ : ∃ b, w.heap.size = b := ⟨_, rfl⟩
  have BB : Hid (Below w.heap.size w (w.alloc (.cells #[.int .u64 0, .int .u64 0, .int .u32 0] 57)) ∧ w.heap.size ≤ b ∧ g < b) := ⟨Go.Joins.below_alloc1 _ _, by omega, by omega⟩
  clear hc hB x1 x2 x3 C1 C2 C3 hc2
  go_enter Try.func53, Try.ntmps53
  go_wp2_with fail
  rw [hbb] at ZB
  clear hbb
  generalize w.alloc (.cells #[.int .u64 0, .int .u64 0, .int .u32 0] 57) = w1 at *
  refine wp_region_noPanic ?_
  refine wp_region_held_drew (S := fun W => ∀ i, i < 20 → W.cell? ⟨g, o + i, none⟩ = some (.int .u8 (B (a + i)))) (by kernel_rfl) ?_ (fun hHeld => ?_)
  · exact HS.out
  have ZB2 : Hid (Blk w1.drew b [.int .u64 0, .int .u64 0, .int .u32 0] 57) := ZB.out
  have BB2 : Hid (Below w.heap.size w w1.drew ∧ w.heap.size ≤ b ∧ g < b) := ⟨below_drew BB.out.1, BB.out.2⟩
  clear ZB BB
  have ZB := ZB2
  have BB := BB2
  clear ZB2 BB2 HS
  generalize w1.drew = U at hHeld ZB BB ⊢
  refine wpAnyH_take (i := 0) (oi := ⟨some 3, _, _, _, _, none⟩) (v := ?_) rfl (by kernel_rfl) (by kernel_rfl) (by kernel_rfl) (fun _ _ _ h => h) (Or.inl ⟨by rfl, ?_⟩) (by assumption) ?_
  rotate_left
  · intro w hSw; (try dsimp only at hSw); go_simp; (try with_reducible rfl)
  try simp only [Act.put, List.setIfInBounds_toArray, List.set_cons_zero, List.set_cons_succ]
  refine wpAnyH_take (i := 1) (oi := ⟨some 4, _, _, _, _, none⟩) (v := (.slice (some ⟨g, o, none⟩) 8 c)) rfl (by kernel_rfl) (by kernel_rfl) (by kernel_rfl) (fun _ _ _ h => h) (Or.inl ⟨by rfl, ?_⟩) (by assumption) ?_
  · intro w hSw; (try dsimp only at hSw); have f1 : ¬ ((c : Int) < 8) := (by omega); have f2 : ¬ c = 8 := (by omega); have f3 : (16 : Int) ≤ (c : Int) := (by omega); have f4 : ¬ c = 16 := (by omega); have f5 : (8 : Int) ≤ (c : Int) := (by omega); have f6 : (20 : Int) ≤ (c : Int) := (by omega); go_simp; (try simp [*])
  try simp only [Act.put, List.setIfInBounds_toArray, List.set_cons_zero, List.set_cons_succ]
  refine wpAnyH_take (i := 3) (oi := ⟨some 6, _, _, _, _, none⟩) (v := ?_) rfl (by kernel_rfl) (by kernel_rfl) (by kernel_rfl) (fun _ _ _ h => h) (Or.inl ⟨by rfl, ?_⟩) (by assumption) ?_
  rotate_left
  · intro w hSw; (try dsimp only at hSw); go_simp; (try with_reducible rfl)
  try simp only [Act.put, List.setIfInBounds_toArray, List.set_cons_zero, List.set_cons_succ]
  refine wpAnyH_take (i := 4) (oi := ⟨some 7, _, _, _, _, none⟩) (v := (.slice (some ⟨g, o + 8, none⟩) 8 (c - 8))) rfl (by kernel_rfl) (by kernel_rfl) (by kernel_rfl) (fun _ _ _ h => h) (Or.inl ⟨by rfl, ?_⟩) (by assumption) ?_
  · intro w hSw; (try dsimp only at hSw); have f1 : ¬ ((c : Int) < 8) := (by omega); have f2 : ¬ c = 8 := (by omega); have f3 : (16 : Int) ≤ (c : Int) := (by omega); have f4 : ¬ c = 16 := (by omega); have f5 : (8 : Int) ≤ (c : Int) := (by omega); have f6 : (20 : Int) ≤ (c : Int) := (by omega); go_simp; (try simp [*])
  try simp only [Act.put, List.setIfInBounds_toArray, List.set_cons_zero, List.set_cons_succ]
  refine wpAnyH_take (i := 6) (oi := ⟨some 9, _, _, _, _, none⟩) (v := ?_) rfl (by kernel_rfl) (by kernel_rfl) (by kernel_rfl) (fun _ _ _ h => h) (Or.inl ⟨by rfl, ?_⟩) (by assumption) ?_
  rotate_left
  · intro w hSw; (try dsimp only at hSw); go_simp; (try with_reducible rfl)
  try simp only [Act.put, List.setIfInBounds_toArray, List.set_cons_zero, List.set_cons_succ]
  refine wpAnyH_take (i := 7) (oi := ⟨some 10, _, _, _, _, none⟩) (v := (.slice (some ⟨g, o + 16, none⟩) 4 (c - 16))) rfl (by kernel_rfl) (by kernel_rfl) (by kernel_rfl) (fun _ _ _ h => h) (Or.inl ⟨by rfl, ?_⟩) (by assumption) ?_
  · intro w hSw; (try dsimp only at hSw); have f1 : ¬ ((c : Int) < 8) := (by omega); have f2 : ¬ c = 8 := (by omega); have f3 : (16 : Int) ≤ (c : Int) := (by omega); have f4 : ¬ c = 16 := (by omega); have f5 : (8 : Int) ≤ (c : Int) := (by omega); have f6 : (20 : Int) ≤ (c : Int) := (by omega); go_simp; (try simp [*])
  try simp only [Act.put, List.setIfInBounds_toArray, List.set_cons_zero, List.set_cons_succ]
  refine wpAnyH_ready (rs := [2]) (by kernel_rfl) (by simp) ?_
  refine AllReadyH.cons (o := ⟨some 5, _, _, _, _, none⟩) rfl (fun K hK => ?_) AllReadyH.nil
  go_simp
  go_wp2_with (go_at_call 62; refine Calls.mono (HC1.out _ hHeld) ?_; rintro e w2 ⟨rfl, hu⟩)
  subst hu
  refine hK.out _ _ hHeld (fun hHeld2 => ?_)
  clear hK K hHeld 
  have hHeld := hHeld2
  clear hHeld2
  try simp only [Act.put, List.setIfInBounds_toArray, List.set_cons_zero, List.set_cons_succ]
  refine wpAnyH_ready (rs := [5]) (by kernel_rfl) (by simp) ?_
  refine AllReadyH.cons (o := ⟨some 8, _, _, _, _, none⟩) rfl (fun K hK => ?_) AllReadyH.nil
  go_simp
  go_wp2_with (go_at_call 62; refine Calls.mono (HC2.out _ hHeld) ?_; rintro e w2 ⟨rfl, hu⟩)
  subst hu
  refine hK.out _ _ hHeld (fun hHeld2 => ?_)
  clear hK K hHeld 
  have hHeld := hHeld2
  clear hHeld2
  try simp only [Act.put, List.setIfInBounds_toArray, List.set_cons_zero, List.set_cons_succ]
  refine wpAnyH_ready (rs := [8]) (by kernel_rfl) (by simp) ?_
  refine AllReadyH.cons (o := ⟨some 11, _, _, _, _, none⟩) rfl (fun K hK => ?_) AllReadyH.nil
  go_simp
  go_wp2_with (go_at_call 62; refine Calls.mono (HC3.out _ hHeld) ?_; rintro e w2 ⟨rfl, hu⟩)
  subst hu
  refine hK.out _ _ hHeld (fun hHeld2 => ?_)
  clear hK K hHeld 
  have hHeld := hHeld2
  clear hHeld2
  try simp only [Act.put, List.setIfInBounds_toArray, List.set_cons_zero, List.set_cons_succ]
  refine wpAnyH_take (i := 9) (oi := ⟨some 12, _, _, _, _, none⟩) (v := ?_) rfl (by kernel_rfl) (by kernel_rfl) (by kernel_rfl) (fun _ _ _ h => h) (Or.inl ⟨by rfl, ?_⟩) (by assumption) ?_
  rotate_left
  · intro w hSw; (try dsimp only at hSw); go_simp; (try with_reducible rfl)
  try simp only [Act.put, List.setIfInBounds_toArray, List.set_cons_zero, List.set_cons_succ]
  refine wpAnyH_take (i := 10) (oi := ⟨some 13, _, _, _, _, none⟩) (v := ?_) rfl (by kernel_rfl) (by kernel_rfl) (by kernel_rfl) (fun _ _ _ h => h) (Or.inl ⟨by rfl, ?_⟩) (by assumption) ?_
  rotate_left
  · intro w hSw; (try dsimp only at hSw); go_simp; (try with_reducible rfl)
  try simp only [Act.put, List.setIfInBounds_toArray, List.set_cons_zero, List.set_cons_succ]
  refine wpAnyH_ready (rs := [11]) (by kernel_rfl) (by simp) ?_
  refine AllReadyH.cons (o := ⟨none, .store 57 (.tmp 2) (.tmp 13), _, _, _, none⟩) rfl (fun K hK => ?_) AllReadyH.nil
  refine wanted_mp rfl ?_
  have th : w2.there b 0 3 := Blk.there ZB.out
  refine wp_store_mid _ _ _ rfl b 0 #[.int .u64 X1, .int .u64 X2, .int .u32 X3] rfl rfl th (by kernel_rfl) (by simp [Value.oneCell']) ?_
  (try simp only [List.toList_toArray])
  have F1 : Hid (Blk (w2.setCells b 0 [.int .u64 X1, .int .u64 X2, .int .u32 X3]) b [.int .u64 X1, .int .u64 X2, .int .u32 X3] 57 ∧ Below w.heap.size w (w2.setCells b 0 [.int .u64 X1, .int .u64 X2, .int .u32 X3])) := ⟨((Blk.set ZB.out 0 (.int .u64 X1)).set 1 (.int .u64 X2)).set 2 (.int .u32 X3), ((BB.out.1.setCell (p := ⟨b, 0, none⟩) BB.out.2.1 _).setCell (p := ⟨b, 1, none⟩) BB.out.2.1 _).setCell (p := ⟨b, 2, none⟩) BB.out.2.1 _⟩
  have HS2 : Hid (∀ i, i < 20 → (w2.setCells b 0 [.int .u64 X1, .int .u64 X2, .int .u32 X3]).cell? ⟨g, o + i, none⟩ = some (.int .u8 (B (a + i)))) := fun i hi => by
    have q := hHeld i hi
    have nb : b ≠ g := by have := BB.out.2; omega
    simp only [World.setCells]
    rw [World.cell?_setCell_far _ _ _ _ nb, World.cell?_setCell_far _ _ _ _ nb, World.cell?_setCell_far _ _ _ _ nb]; exact q
  generalize w2.setCells b 0 [.int .u64 X1, .int .u64 X2, .int .u32 X3] = V at *
  refine hK.out _ _ HS2.out (fun hHeld2 => ?_)
  clear hK K hHeld th ZB BB
  have hHeld := hHeld2
  clear hHeld2
  try simp only [Act.put, List.setIfInBounds_toArray, List.set_cons_zero, List.set_cons_succ]
  clear hHeld
  refine wpAnyH_done (by kernel_rfl) ?_ _
  refine NoPanic.normal ?_
  go_wp2_with fail
  refine bodyPost_ret (v := .agg #[.int .u64 X1, .int .u64 X2, .int .u32 X3]) (results_one Try.results53 _ _ _ _ _ rfl (run_loadVar_mid (P := Try.prog) _ b 0 57 [.int .u64 X1, .int .u64 X2, .int .u32 X3] _ F1.out.1.range Try.underlying57 rfl (by kernel_rfl))) rfl ?_
  exact ⟨rfl, F1.out.2⟩
end Go.Proofs.Ytpfcpmhpekidkaa.Bm
