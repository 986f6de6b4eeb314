/- Boot maps: an area's frames. -/
import Derived.Test.YtpfcpmhpekidkaaO3
namespace Go.Proofs.Ytpfcpmhpekidkaa.Bm
open Go.ChangeShapes Go.WideShapes Go.ChangeAt Go.RowKit Go.Maps
set_option linter.unusedSimpArgs false
set_option linter.unusedVariables false
set_option maxRecDepth 8000

theorem end_any (f l k : Int) (z : Int) (hz : IntKind.u64.wrap (f + l) = z) (w : World) : Calls Try.prog 41 #[.agg #[.int .u64 f, .int .u64 l, .int .u32 k]] w fun e w' => e = .returned (.int .u64 z) ∧ w' = w.alloc (.cells #[.int .u64 f, .int .u64 l, .int .u32 k] 57) := by
  go_enter Try.func41, Try.ntmps41
  go_wp2_with fail
  go_ret
  exact ⟨rfl, rfl⟩
theorem below_any (f t top m : Int) (hm : m = min t top) (w : World) : Calls Try.prog 21 #[.agg #[.int .i64 f, .int .i64 t], .int .i64 top] w fun e w' => e = .returned (.agg #[.int .i64 f, .int .i64 m]) ∧ Below w.heap.size w w' := by
  rcases Int.lt_trichotomy t top with c | c | c
  · have d1 : decide (top < t) = false := by simp; omega
    have d2 : decide (t < top) = true := by simp; omega
    have d3 : decide (t ≤ top) = true := by simp; omega
    obtain rfl : m = t := by omega
    clear hm
    go_enter Try.func21, Try.ntmps21
    go_wp2_with fail
    exact bodyPost_ret (v := .agg #[.int .i64 f, .int .i64 m]) (by simp [results, Try.results21, go_sem]) rfl ⟨rfl, below_new (Go.Joins.below_alloc1 _ _) _⟩
  · subst c
    obtain rfl : m = t := by omega
    have d1 : decide (m < m) = false := by simp
    have d3 : decide (m ≤ m) = true := by simp
    clear hm
    go_enter Try.func21, Try.ntmps21
    go_wp2_with fail
    exact bodyPost_ret (v := .agg #[.int .i64 f, .int .i64 m]) (by simp [results, Try.results21, go_sem]) rfl ⟨rfl, below_new (Go.Joins.below_alloc1 _ _) _⟩
  · have d1 : decide (top < t) = true := by simp; omega
    have d2 : decide (t < top) = false := by simp; omega
    have d3 : decide (t ≤ top) = false := by simp; omega
    obtain rfl : m = top := by omega
    clear hm
    go_enter Try.func21, Try.ntmps21
    go_wp2_with fail
    exact bodyPost_ret (v := .agg #[.int .i64 f, .int .i64 m]) (by simp [results, Try.results21, go_sem]) rfl ⟨rfl, below_new (Go.Joins.below_alloc1 _ _) _⟩
theorem Blk.far {w : World} {b c : Nat} {C : List Value} {t : TypeId} (h : Blk w b C t) (o : Nat) (v : Value) (ne : b ≠ c) : Blk (w.setCell ⟨c, o, none⟩ v) b C t := (Below.heap_setCell _ _ _ _ ne).trans h
theorem Blk.scs {w : World} {b c : Nat} {C : List Value} {t : TypeId} (h : Blk w b C t) (ne : b ≠ c) : ∀ (vs : List Value) (o : Nat), Blk (w.setCells c o vs) b C t := fun vs => by
  induction vs generalizing w with
  | nil => intro o; exact h
  | cons v r ih => intro o; rw [World.setCells]; exact ih (h.far o v ne) _
theorem res2 {V : World} {rb : Nat} {x y : Value} (H : Blk V rb [x, y] 30) : (loadVar 30 ⟨rb, 0, none⟩).run Try.prog V = .ok (.agg #[x, y]) V :=
  run_loadVar_mid (P := Try.prog) _ rb 0 30 [x, y] _ H.range Try.underlying30 rfl (by kernel_rfl)
set_option maxHeartbeats 1000000 in
theorem whole_any (f l k : Int) (f0 : 0 ≤ f) (l0 : 0 ≤ l) (hs : f + l < 18446744073709551616) (a b : Int) (ha : a = (f + 4095) / 4096) (hb : b = (f + l) / 4096) (w : World) : Calls Try.prog 22 #[.agg #[.int .u64 f, .int .u64 l, .int .u32 k]] w fun e w' => e = .returned (.agg #[.int .i64 a, .int .i64 b]) ∧ Below w.heap.size w w' := by
  have EC : Hid (∀ W : World, _) := fun W => (end_any f l k (f + l) (by rw [IntKind.wrap_u64, Int.emod_eq_of_lt (by omega) (by omega)]) W).mono fun e w' h => (show e = .returned (.int .u64 (f + l)) ∧ Below W.heap.size W w' from ⟨h.1, by rw [h.2]; exact Go.Joins.below_alloc1 _ _⟩)
  subst hb
  have i1 : IntKind.i64.wrap (f / 4096) = f / 4096 := by rw [IntKind.wrap_i64]; omega
  have i2 : IntKind.i64.wrap ((f + l) / 4096) = (f + l) / 4096 := by rw [IntKind.wrap_i64]; omega
  have i3 : IntKind.i64.wrap (f / 4096 + 1) = f / 4096 + 1 := by rw [IntKind.wrap_i64]; omega
  obtain ⟨b0, e0⟩ : ∃ b0, w.heap.size = b0 := ⟨_, rfl⟩
  obtain ⟨b1, e1⟩ : ∃ b1, b0 + 1 = b1 := ⟨_, rfl⟩
  have INV : Hid (((Blk ((w.alloc (.cells #[.int .u64 f, .int .u64 l, .int .u32 k] 57)).alloc (.cells #[.int .i64 0, .int .i64 0] 30)) b0 [.int .u64 f, .int .u64 l, .int .u32 k] 57 ∧ Blk ((w.alloc (.cells #[.int .u64 f, .int .u64 l, .int .u32 k] 57)).alloc (.cells #[.int .i64 0, .int .i64 0] 30)) b1 [.int .i64 0, .int .i64 0] 30) ∧ Below w.heap.size w ((w.alloc (.cells #[.int .u64 f, .int .u64 l, .int .u32 k] 57)).alloc (.cells #[.int .i64 0, .int .i64 0] 30)))) := by
    refine ⟨⟨?_, ?_⟩, below_new (Go.Joins.below_alloc1 _ _) _⟩
    · rw [← e0]; exact (Blk.made w [.int .u64 f, .int .u64 l, .int .u32 k] 57).below (Go.Joins.below_alloc1 _ _)
    · rw [← e1, ← e0, ← World.size_alloc w (.cells #[.int .u64 f, .int .u64 l, .int .u32 k] 57)]; exact Blk.made _ [.int .i64 0, .int .i64 0] 30
  have BN : Hid (w.heap.size ≤ b0 ∧ w.heap.size ≤ b1 ∧ b0 ≠ b1) := ⟨by omega, by omega, by omega⟩
  have HA : Hid (a = (f + 4095) / 4096) := ha
  clear ha
  go_enter Try.func22, Try.ntmps22
  go_upto_region 1 with fail
  (try rw [e0]); (try rw [e1])
  clear e0 e1
  generalize ((w.alloc (.cells #[.int .u64 f, .int .u64 l, .int .u32 k] 57)).alloc (.cells #[.int .i64 0, .int .i64 0] 30)) = w1 at *
  go_cut [3] (fun v W => ∃ q : Nat, v = .pointer (some ⟨q, 0, none⟩) ∧ Hid (((Blk W b0 [.int .u64 f, .int .u64 l, .int .u32 k] 57 ∧ Blk W b1 [.int .i64 0, .int .i64 0] 30) ∧ Below w.heap.size w W) ∧ Blk W q [.int .i64 (f / 4096), .int .i64 ((f + l) / 4096)] 30 ∧ (q ≠ b0 ∧ q ≠ b1) ∧ w.heap.size ≤ q))
  case first =>
    refine wp_region_noPanic ?_
    refine wp_region_held_drew (S := fun W => ((Blk W b0 [.int .u64 f, .int .u64 l, .int .u32 k] 57 ∧ Blk W b1 [.int .i64 0, .int .i64 0] 30) ∧ Below w.heap.size w W)) (by kernel_rfl) ?_ (fun hHeld => ?_)
    · exact ⟨INV.out.1, below_drew INV.out.2⟩
    clear INV
    generalize w1.drew = U at hHeld  ⊢
    refine wpAnyH_take (i := 0) (oi := ⟨some 4, _, _, _, _, none⟩) (v := ?_) rfl (by kernel_rfl) (by kernel_rfl) (by kernel_rfl) (fun _ _ _ h => h) (Or.inl ⟨by rfl, ?_⟩) (by assumption) ?_
    rotate_left
    · intro w hSw; (try dsimp only at hSw); go_simp; (try with_reducible rfl)
    try simp only [Act.put, List.setIfInBounds_toArray, List.set_cons_zero, List.set_cons_succ]
    refine wpAnyH_take (i := 1) (oi := ⟨some 5, _, _, _, _, none⟩) (v := (.int .u64 f)) rfl (by kernel_rfl) (by kernel_rfl) (by kernel_rfl) (fun _ _ _ h => h) (Or.inl ⟨by rfl, ?_⟩) (by assumption) ?_
    · intro w hSw; (try dsimp only at hSw); have q0 : w.cell? ⟨b0, 0, none⟩ = some (.int .u64 f) := hSw.1.1.cell 0; go_simp; (try simp [*])
    try simp only [Act.put, List.setIfInBounds_toArray, List.set_cons_zero, List.set_cons_succ]
    refine wpAnyH_take (i := 2) (oi := ⟨some 6, _, _, _, _, none⟩) (v := (.int .u64 (f / 4096))) rfl (by kernel_rfl) (by kernel_rfl) (by kernel_rfl) (fun _ _ _ h => h) (Or.inl ⟨by rfl, ?_⟩) (by assumption) ?_
    · intro w hSw; (try dsimp only at hSw); have t1 : f.tdiv 4096 = f / 4096 := Int.tdiv_eq_ediv_of_nonneg f0; have u1 : IntKind.u64.wrap (f / 4096) = f / 4096 := (by rw [IntKind.wrap_u64]; omega); have t2 : (f + l).tdiv 4096 = (f + l) / 4096 := Int.tdiv_eq_ediv_of_nonneg (by omega); have u2 : IntKind.u64.wrap ((f + l) / 4096) = (f + l) / 4096 := (by rw [IntKind.wrap_u64]; omega); go_simp; (try simp [*])
    try simp only [Act.put, List.setIfInBounds_toArray, List.set_cons_zero, List.set_cons_succ]
    refine wpAnyH_take (i := 3) (oi := ⟨some 7, _, _, _, _, none⟩) (v := (.int .i64 (f / 4096))) rfl (by kernel_rfl) (by kernel_rfl) (by kernel_rfl) (fun _ _ _ h => h) (Or.inl ⟨by rfl, ?_⟩) (by assumption) ?_
    · intro w hSw; (try dsimp only at hSw); have t1 : f.tdiv 4096 = f / 4096 := Int.tdiv_eq_ediv_of_nonneg f0; have u1 : IntKind.u64.wrap (f / 4096) = f / 4096 := (by rw [IntKind.wrap_u64]; omega); have t2 : (f + l).tdiv 4096 = (f + l) / 4096 := Int.tdiv_eq_ediv_of_nonneg (by omega); have u2 : IntKind.u64.wrap ((f + l) / 4096) = (f + l) / 4096 := (by rw [IntKind.wrap_u64]; omega); go_simp; (try simp [*])
    try simp only [Act.put, List.setIfInBounds_toArray, List.set_cons_zero, List.set_cons_succ]
    refine wpAnyH_take (i := 4) (oi := ⟨some 8, _, _, _, _, none⟩) (v := (.agg #[.int .u64 f, .int .u64 l, .int .u32 k])) rfl (by kernel_rfl) (by kernel_rfl) (by kernel_rfl) (fun _ _ _ h => h) (Or.inl ⟨by rfl, ?_⟩) (by assumption) ?_
    · intro w hSw; (try dsimp only at hSw); have q0 : w.cell? ⟨b0, 0, none⟩ = some (.int .u64 f) := hSw.1.1.cell 0; have q1 : w.cell? ⟨b0, 1, none⟩ = some (.int .u64 l) := hSw.1.1.cell 1; have q2 : w.cell? ⟨b0, 2, none⟩ = some (.int .u32 k) := hSw.1.1.cell 2; go_simp; (try simp [*])
    try simp only [Act.put, List.setIfInBounds_toArray, List.set_cons_zero, List.set_cons_succ]
    refine wpAnyH_ready (rs := [5, 9]) (by kernel_rfl) (by simp) ?_
    refine AllReadyH.cons (o := ⟨some 9, _, _, _, _, none⟩) rfl (fun K hK => ?_) (AllReadyH.cons (o := ⟨some 3, _, _, _, _, none⟩) rfl (fun K hK => ?_) AllReadyH.nil)
    · go_simp
      go_wp2_with (go_at_call 41; refine Calls.mono (EC.out _) ?_; rintro e V ⟨rfl, hu⟩)
      have hS2 : ((Blk V b0 [.int .u64 f, .int .u64 l, .int .u32 k] 57 ∧ Blk V b1 [.int .i64 0, .int .i64 0] 30) ∧ Below w.heap.size w V) := ⟨⟨hHeld.1.1.below hu, hHeld.1.2.below hu⟩, below_then hHeld.2 hu⟩
      clear hu
      refine hK.out _ _ hS2 (fun hHeld2 => ?_)
      clear hK K hHeld hS2
      have hHeld := hHeld2
      clear hHeld2
      try simp only [Act.put, List.setIfInBounds_toArray, List.set_cons_zero, List.set_cons_succ]
      refine wpAnyH_take (i := 6) (oi := ⟨some 10, _, _, _, _, none⟩) (v := (.int .u64 ((f + l) / 4096))) rfl (by kernel_rfl) (by kernel_rfl) (by kernel_rfl) (fun _ _ _ h => h) (Or.inl ⟨by rfl, ?_⟩) (by assumption) ?_
      · intro w hSw; (try dsimp only at hSw); have t1 : f.tdiv 4096 = f / 4096 := Int.tdiv_eq_ediv_of_nonneg f0; have u1 : IntKind.u64.wrap (f / 4096) = f / 4096 := (by rw [IntKind.wrap_u64]; omega); have t2 : (f + l).tdiv 4096 = (f + l) / 4096 := Int.tdiv_eq_ediv_of_nonneg (by omega); have u2 : IntKind.u64.wrap ((f + l) / 4096) = (f + l) / 4096 := (by rw [IntKind.wrap_u64]; omega); go_simp; (try simp [*])
      try simp only [Act.put, List.setIfInBounds_toArray, List.set_cons_zero, List.set_cons_succ]
      refine wpAnyH_take (i := 7) (oi := ⟨some 11, _, _, _, _, none⟩) (v := (.int .i64 ((f + l) / 4096))) rfl (by kernel_rfl) (by kernel_rfl) (by kernel_rfl) (fun _ _ _ h => h) (Or.inl ⟨by rfl, ?_⟩) (by assumption) ?_
      · intro w hSw; (try dsimp only at hSw); have t1 : f.tdiv 4096 = f / 4096 := Int.tdiv_eq_ediv_of_nonneg f0; have u1 : IntKind.u64.wrap (f / 4096) = f / 4096 := (by rw [IntKind.wrap_u64]; omega); have t2 : (f + l).tdiv 4096 = (f + l) / 4096 := Int.tdiv_eq_ediv_of_nonneg (by omega); have u2 : IntKind.u64.wrap ((f + l) / 4096) = (f + l) / 4096 := (by rw [IntKind.wrap_u64]; omega); go_simp; (try simp [*])
      try simp only [Act.put, List.setIfInBounds_toArray, List.set_cons_zero, List.set_cons_succ]
      refine wpAnyH_take (i := 8) (oi := ⟨some 12, _, _, _, _, none⟩) (v := ?_) rfl (by kernel_rfl) (by kernel_rfl) (by kernel_rfl) (fun _ _ _ h => h) (Or.inl ⟨by rfl, ?_⟩) (by assumption) ?_
      rotate_left
      · intro w hSw; (try dsimp only at hSw); go_simp; (try with_reducible rfl)
      try simp only [Act.put, List.setIfInBounds_toArray, List.set_cons_zero, List.set_cons_succ]
      refine wpAnyH_ready (rs := [9]) (by kernel_rfl) (by simp) ?_
      refine AllReadyH.cons (o := ⟨some 3, _, _, _, _, none⟩) rfl (fun K hK => ?_) AllReadyH.nil
      go_simp
      have QB : Hid (Blk (V.alloc (.cells #[.int .i64 0, .int .i64 0] 30)) V.heap.size [.int .i64 0, .int .i64 0] 30 ∧ (V.heap.size ≠ b0 ∧ V.heap.size ≠ b1) ∧ w.heap.size ≤ V.heap.size) := ⟨Blk.made V [.int .i64 0, .int .i64 0] 30, ⟨by have := blk_lt hHeld.1.1; omega, by have := blk_lt hHeld.1.2; omega⟩, hHeld.2.size⟩
      have hS2 : ((Blk (V.alloc (.cells #[.int .i64 0, .int .i64 0] 30)) b0 [.int .u64 f, .int .u64 l, .int .u32 k] 57 ∧ Blk (V.alloc (.cells #[.int .i64 0, .int .i64 0] 30)) b1 [.int .i64 0, .int .i64 0] 30) ∧ Below w.heap.size w (V.alloc (.cells #[.int .i64 0, .int .i64 0] 30))) := ⟨⟨hHeld.1.1.below (Go.Joins.below_alloc1 _ _), hHeld.1.2.below (Go.Joins.below_alloc1 _ _)⟩, below_new hHeld.2 _⟩
      refine hK.out _ _ hS2 (fun hHeld2 => ?_)
      clear hK K hHeld hS2
      have hHeld := hHeld2
      clear hHeld2
      try simp only [Act.put, List.setIfInBounds_toArray, List.set_cons_zero, List.set_cons_succ]
      generalize V.alloc (.cells #[.int .i64 0, .int .i64 0] 30) = Y at hHeld QB ⊢
      generalize V.heap.size = q at QB ⊢
      refine wpAnyH_ready (rs := [10]) (by kernel_rfl) (by simp) ?_
      refine AllReadyH.cons (o := ⟨none, .store 30 (.tmp 3) (.tmp 12), _, _, _, none⟩) rfl (fun K hK => ?_) AllReadyH.nil
      refine wanted_mp rfl ?_
      have th : Y.there q 0 2 := Blk.there QB.out.1
      refine wp_store_mid _ _ _ rfl q 0 #[.int .i64 (f / 4096), .int .i64 ((f + l) / 4096)] rfl rfl th (by kernel_rfl) (by simp [Value.oneCell']) ?_
      (try simp only [List.toList_toArray])
      have F1 : Hid (((Blk (Y.setCells q 0 [.int .i64 (f / 4096), .int .i64 ((f + l) / 4096)]) b0 [.int .u64 f, .int .u64 l, .int .u32 k] 57 ∧ Blk (Y.setCells q 0 [.int .i64 (f / 4096), .int .i64 ((f + l) / 4096)]) b1 [.int .i64 0, .int .i64 0] 30) ∧ Below w.heap.size w (Y.setCells q 0 [.int .i64 (f / 4096), .int .i64 ((f + l) / 4096)])) ∧ Blk (Y.setCells q 0 [.int .i64 (f / 4096), .int .i64 ((f + l) / 4096)]) q [.int .i64 (f / 4096), .int .i64 ((f + l) / 4096)] 30 ∧ (q ≠ b0 ∧ q ≠ b1) ∧ w.heap.size ≤ q) := by
        have Q := QB.out
        refine ⟨⟨⟨Blk.scs hHeld.1.1 (Ne.symm Q.2.1.1) _ _, Blk.scs hHeld.1.2 (Ne.symm Q.2.1.2) _ _⟩, (hHeld.2.setCell (p := ⟨q, 0, none⟩) Q.2.2 _).setCell (p := ⟨q, 1, none⟩) Q.2.2 _⟩, (Blk.set Q.1 0 _).set 1 _, Q.2⟩
      generalize Y.setCells q 0 [.int .i64 (f / 4096), .int .i64 ((f + l) / 4096)] = X at *
      refine hK.out _ _ F1.out.1 (fun hHeld2 => ?_)
      clear hK K hHeld th QB
      have hHeld := hHeld2
      clear hHeld2
      try simp only [Act.put, List.setIfInBounds_toArray, List.set_cons_zero, List.set_cons_succ]
      clear hHeld
      refine wpAnyH_done (by kernel_rfl) ?_ _
      refine NoPanic.normal ?_
      try go_wp2_with fail
      go_meet
      exact ⟨q, rfl, F1⟩
    · go_simp
      have QB : Hid (Blk (U.alloc (.cells #[.int .i64 0, .int .i64 0] 30)) U.heap.size [.int .i64 0, .int .i64 0] 30 ∧ (U.heap.size ≠ b0 ∧ U.heap.size ≠ b1) ∧ w.heap.size ≤ U.heap.size) := ⟨Blk.made U [.int .i64 0, .int .i64 0] 30, ⟨by have := blk_lt hHeld.1.1; omega, by have := blk_lt hHeld.1.2; omega⟩, hHeld.2.size⟩
      have hS2 : ((Blk (U.alloc (.cells #[.int .i64 0, .int .i64 0] 30)) b0 [.int .u64 f, .int .u64 l, .int .u32 k] 57 ∧ Blk (U.alloc (.cells #[.int .i64 0, .int .i64 0] 30)) b1 [.int .i64 0, .int .i64 0] 30) ∧ Below w.heap.size w (U.alloc (.cells #[.int .i64 0, .int .i64 0] 30))) := ⟨⟨hHeld.1.1.below (Go.Joins.below_alloc1 _ _), hHeld.1.2.below (Go.Joins.below_alloc1 _ _)⟩, below_new hHeld.2 _⟩
      refine hK.out _ _ hS2 (fun hHeld2 => ?_)
      clear hK K hHeld hS2
      have hHeld := hHeld2
      clear hHeld2
      try simp only [Act.put, List.setIfInBounds_toArray, List.set_cons_zero, List.set_cons_succ]
      generalize U.alloc (.cells #[.int .i64 0, .int .i64 0] 30) = Y at hHeld QB ⊢
      generalize U.heap.size = q at QB ⊢
      refine wpAnyH_ready (rs := [5]) (by kernel_rfl) (by simp) ?_
      refine AllReadyH.cons (o := ⟨some 9, _, _, _, _, none⟩) rfl (fun K hK => ?_) AllReadyH.nil
      go_simp
      go_wp2_with (go_at_call 41; refine Calls.mono (EC.out _) ?_; rintro e V ⟨rfl, hu⟩)
      have hS2 : ((Blk V b0 [.int .u64 f, .int .u64 l, .int .u32 k] 57 ∧ Blk V b1 [.int .i64 0, .int .i64 0] 30) ∧ Below w.heap.size w V) := ⟨⟨hHeld.1.1.below hu, hHeld.1.2.below hu⟩, below_then hHeld.2 hu⟩
      have QB2 : Hid (Blk V q [.int .i64 0, .int .i64 0] 30 ∧ (q ≠ b0 ∧ q ≠ b1) ∧ w.heap.size ≤ q) := ⟨QB.out.1.below hu, QB.out.2⟩
      clear QB
      have QB := QB2
      clear QB2
      clear hu
      refine hK.out _ _ hS2 (fun hHeld2 => ?_)
      clear hK K hHeld hS2
      have hHeld := hHeld2
      clear hHeld2
      try simp only [Act.put, List.setIfInBounds_toArray, List.set_cons_zero, List.set_cons_succ]
      refine wpAnyH_take (i := 6) (oi := ⟨some 10, _, _, _, _, none⟩) (v := (.int .u64 ((f + l) / 4096))) rfl (by kernel_rfl) (by kernel_rfl) (by kernel_rfl) (fun _ _ _ h => h) (Or.inl ⟨by rfl, ?_⟩) (by assumption) ?_
      · intro w hSw; (try dsimp only at hSw); have t1 : f.tdiv 4096 = f / 4096 := Int.tdiv_eq_ediv_of_nonneg f0; have u1 : IntKind.u64.wrap (f / 4096) = f / 4096 := (by rw [IntKind.wrap_u64]; omega); have t2 : (f + l).tdiv 4096 = (f + l) / 4096 := Int.tdiv_eq_ediv_of_nonneg (by omega); have u2 : IntKind.u64.wrap ((f + l) / 4096) = (f + l) / 4096 := (by rw [IntKind.wrap_u64]; omega); go_simp; (try simp [*])
      try simp only [Act.put, List.setIfInBounds_toArray, List.set_cons_zero, List.set_cons_succ]
      refine wpAnyH_take (i := 7) (oi := ⟨some 11, _, _, _, _, none⟩) (v := (.int .i64 ((f + l) / 4096))) rfl (by kernel_rfl) (by kernel_rfl) (by kernel_rfl) (fun _ _ _ h => h) (Or.inl ⟨by rfl, ?_⟩) (by assumption) ?_
      · intro w hSw; (try dsimp only at hSw); have t1 : f.tdiv 4096 = f / 4096 := Int.tdiv_eq_ediv_of_nonneg f0; have u1 : IntKind.u64.wrap (f / 4096) = f / 4096 := (by rw [IntKind.wrap_u64]; omega); have t2 : (f + l).tdiv 4096 = (f + l) / 4096 := Int.tdiv_eq_ediv_of_nonneg (by omega); have u2 : IntKind.u64.wrap ((f + l) / 4096) = (f + l) / 4096 := (by rw [IntKind.wrap_u64]; omega); go_simp; (try simp [*])
      try simp only [Act.put, List.setIfInBounds_toArray, List.set_cons_zero, List.set_cons_succ]
      refine wpAnyH_take (i := 8) (oi := ⟨some 12, _, _, _, _, none⟩) (v := ?_) rfl (by kernel_rfl) (by kernel_rfl) (by kernel_rfl) (fun _ _ _ h => h) (Or.inl ⟨by rfl, ?_⟩) (by assumption) ?_
      rotate_left
      · intro w hSw; (try dsimp only at hSw); go_simp; (try with_reducible rfl)
      try simp only [Act.put, List.setIfInBounds_toArray, List.set_cons_zero, List.set_cons_succ]
      refine wpAnyH_ready (rs := [10]) (by kernel_rfl) (by simp) ?_
      refine AllReadyH.cons (o := ⟨none, .store 30 (.tmp 3) (.tmp 12), _, _, _, none⟩) rfl (fun K hK => ?_) AllReadyH.nil
      refine wanted_mp rfl ?_
      have th : V.there q 0 2 := Blk.there QB.out.1
      refine wp_store_mid _ _ _ rfl q 0 #[.int .i64 (f / 4096), .int .i64 ((f + l) / 4096)] rfl rfl th (by kernel_rfl) (by simp [Value.oneCell']) ?_
      (try simp only [List.toList_toArray])
      have F1 : Hid (((Blk (V.setCells q 0 [.int .i64 (f / 4096), .int .i64 ((f + l) / 4096)]) b0 [.int .u64 f, .int .u64 l, .int .u32 k] 57 ∧ Blk (V.setCells q 0 [.int .i64 (f / 4096), .int .i64 ((f + l) / 4096)]) b1 [.int .i64 0, .int .i64 0] 30) ∧ Below w.heap.size w (V.setCells q 0 [.int .i64 (f / 4096), .int .i64 ((f + l) / 4096)])) ∧ Blk (V.setCells q 0 [.int .i64 (f / 4096), .int .i64 ((f + l) / 4096)]) q [.int .i64 (f / 4096), .int .i64 ((f + l) / 4096)] 30 ∧ (q ≠ b0 ∧ q ≠ b1) ∧ w.heap.size ≤ q) := by
        have Q := QB.out
        refine ⟨⟨⟨Blk.scs hHeld.1.1 (Ne.symm Q.2.1.1) _ _, Blk.scs hHeld.1.2 (Ne.symm Q.2.1.2) _ _⟩, (hHeld.2.setCell (p := ⟨q, 0, none⟩) Q.2.2 _).setCell (p := ⟨q, 1, none⟩) Q.2.2 _⟩, (Blk.set Q.1 0 _).set 1 _, Q.2⟩
      generalize V.setCells q 0 [.int .i64 (f / 4096), .int .i64 ((f + l) / 4096)] = X at *
      refine hK.out _ _ F1.out.1 (fun hHeld2 => ?_)
      clear hK K hHeld th QB
      have hHeld := hHeld2
      clear hHeld2
      try simp only [Act.put, List.setIfInBounds_toArray, List.set_cons_zero, List.set_cons_succ]
      clear hHeld
      refine wpAnyH_done (by kernel_rfl) ?_ _
      refine NoPanic.normal ?_
      try go_wp2_with fail
      go_meet
      exact ⟨q, rfl, F1⟩
  case rest =>
    clear INV EC
    obtain ⟨q, rfl, F1⟩ := hcut
    have qa : wc.cell? ⟨b0, 0, none⟩ = some (.int .u64 f) := F1.out.1.1.1.cell 0
    have qb : wc.cell? ⟨q, 0, none⟩ = some (.int .i64 (f / 4096)) := F1.out.2.1.cell 0
    have qc : wc.cell? ⟨q, 1, none⟩ = some (.int .i64 ((f + l) / 4096)) := F1.out.2.1.cell 1
    have qd : wc.cell? ⟨b1, 0, none⟩ = some (.int .i64 0) := F1.out.1.1.2.cell 0
    have qe : wc.cell? ⟨b1, 1, none⟩ = some (.int .i64 0) := F1.out.1.1.2.cell 1
    have fb : wc.frozen? ⟨q, 0, none⟩ = false := F1.out.2.1.free 0
    have fd : wc.frozen? ⟨b1, 0, none⟩ = false := F1.out.1.1.2.free 0
    have fe : wc.frozen? ⟨b1, 1, none⟩ = false := F1.out.1.1.2.free 1
    have n1 : q ≠ b0 := F1.out.2.2.1.1
    have n2 : q ≠ b1 := F1.out.2.2.1.2
    have n3 : b1 ≠ q := Ne.symm n2
    by_cases c : f % 4096 = 0
    · have d1 : (f % 4096 != 0) = false := by simp [c]
      have e1 : Hid (f / 4096 = a) := by have := HA.out; show _ = _; omega
      go_wp2_with fail
      refine bodyPost_ret (v := .agg #[.int .i64 (f / 4096), .int .i64 ((f + l) / 4096)]) (results_one Try.results22 _ _ _ _ _ rfl (res2 ((F1.out.1.1.2.set 0 (.int .i64 (f / 4096))).set 1 (.int .i64 ((f + l) / 4096))))) rfl ?_
      exact ⟨by rw [e1.out], (F1.out.1.2.setCell (p := ⟨b1, 0, none⟩) BN.out.2.1 _).setCell (p := ⟨b1, 1, none⟩) BN.out.2.1 _⟩
    · have d1 : (f % 4096 != 0) = true := by simp [c]
      have e1 : Hid (f / 4096 + 1 = a) := by have := HA.out; show _ = _; omega
      go_wp2_with fail
      refine bodyPost_ret (v := .agg #[.int .i64 (f / 4096 + 1), .int .i64 ((f + l) / 4096)]) (results_one Try.results22 _ _ _ _ _ rfl (res2 (((F1.out.1.1.2.far 0 _ n3).set 0 (.int .i64 (f / 4096 + 1))).set 1 (.int .i64 ((f + l) / 4096))))) rfl ?_
      exact ⟨by rw [e1.out], ((F1.out.1.2.setCell (p := ⟨q, 0, none⟩) F1.out.2.2.2 _).setCell (p := ⟨b1, 0, none⟩) BN.out.2.1 _).setCell (p := ⟨b1, 1, none⟩) BN.out.2.1 _⟩
set_option maxHeartbeats 1000000 in
theorem touched_none (f k : Int) (w : World) : Calls Try.prog 23 #[.agg #[.int .u64 f, .int .u64 0, .int .u32 k]] w fun e w' => e = .returned (.agg #[.int .i64 0, .int .i64 0]) ∧ Below w.heap.size w w' := by
  go_enter Try.func23, Try.ntmps23
  go_wp2_with fail
  exact bodyPost_ret (v := .agg #[.int .i64 0, .int .i64 0]) (by simp [results, Try.results23, go_sem]) rfl ⟨rfl, below_new (Go.Joins.below_alloc1 _ _) _⟩
set_option maxHeartbeats 1000000 in
theorem touched_any (f l k : Int) (f0 : 0 ≤ f) (l0 : 0 < l) (hs : f + l < 18446744073709551616) (w : World) : Calls Try.prog 23 #[.agg #[.int .u64 f, .int .u64 l, .int .u32 k]] w fun e w' => e = .returned (.agg #[.int .i64 (f / 4096), .int .i64 ((f + l - 1) / 4096 + 1)]) ∧ Below w.heap.size w w' := by
  have EC : Hid (∀ W : World, _) := fun W => end_any f l k (f + l) (by rw [IntKind.wrap_u64, Int.emod_eq_of_lt (by omega) (by omega)]) W
  have n0 : (l == 0) = false := by simp; omega
  have n1 : ¬ l = 0 := by omega
  go_enter Try.func23, Try.ntmps23
  go_wp2_with fail
  refine Calls.mono (EC.out _) ?_
  rintro e w2 ⟨rfl, rfl⟩
  clear EC
  go_wp2_with fail
  exact bodyPost_ret (v := .agg #[.int .i64 (f / 4096), .int .i64 ((f + l - 1) / 4096 + 1)]) (by simp [results, Try.results23, go_sem]) rfl ⟨rfl, below_new (below_new (Go.Joins.below_alloc1 _ _) _) _⟩
end Go.Proofs.Ytpfcpmhpekidkaa.Bm
