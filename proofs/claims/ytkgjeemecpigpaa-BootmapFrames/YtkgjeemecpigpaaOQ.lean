/- Boot maps: the document's Frames. -/
import Derived.Test.YtkgjeemecpigpaaOP
import Derived.Deep.DeepCutAuto
namespace Go.Proofs.Ytkgjeemecpigpaa.Bm
open Go.ChangeShapes Go.WideShapes Go.ChangeAt Go.RowKit Go.Maps
set_option linter.unusedSimpArgs false
set_option linter.unusedVariables false
set_option maxRecDepth 8000

theorem rframes_bad (v : Value) (F k1 k2 : Int) (h : ¬ Good F (k1, k2)) (w : World) : Calls Try.prog 19 #[v, .int .i64 F, .agg #[.int .i64 k1, .int .i64 k2]] w fun e w' => e = .returned (.tuple #[.slice none 0 0, .int .i64 1]) ∧ Below w.heap.size w w' := by
  by_cases c1 : F < 1
  · have d1 : decide (F < 1) = true := decide_eq_true c1
    go_enter Try.func19, Try.ntmps19
    go_wp2_with fail
    go_returns
    exact ⟨rfl, Go.Joins.below_alloc1 _ _⟩
  have d1 : decide (F < 1) = false := decide_eq_false c1
  by_cases c2 : 1048576 < F
  · have d2 : decide (1048576 < F) = true := decide_eq_true c2
    go_enter Try.func19, Try.ntmps19
    go_wp2_with fail
    go_returns
    exact ⟨rfl, Go.Joins.below_alloc1 _ _⟩
  have d2 : decide (1048576 < F) = false := decide_eq_false c2
  by_cases c3 : k1 < 0
  · have d3 : decide (k1 < 0) = true := decide_eq_true c3
    go_enter Try.func19, Try.ntmps19
    go_wp2_with fail
    go_returns
    exact ⟨rfl, Go.Joins.below_alloc1 _ _⟩
  have d3 : decide (k1 < 0) = false := decide_eq_false c3
  by_cases c4 : k2 < k1
  · have d4 : decide (k2 < k1) = true := decide_eq_true c4
    go_enter Try.func19, Try.ntmps19
    go_wp2_with fail
    go_returns
    exact ⟨rfl, Go.Joins.below_alloc1 _ _⟩
  have d4 : decide (k2 < k1) = false := decide_eq_false c4
  by_cases c5 : F < k2
  · have d5 : decide (F < k2) = true := decide_eq_true c5
    go_enter Try.func19, Try.ntmps19
    go_wp2_with fail
    go_returns
    exact ⟨rfl, Go.Joins.below_alloc1 _ _⟩
  exact absurd (show Good F (k1, k2) from ⟨by omega, by omega, by show 0 ≤ k1; omega, by show k1 ≤ k2; omega, by show k2 ≤ F; omega⟩) h
theorem tw_a (w1 U : World) (hb : Below w1.heap.size w1 U) (k1 k2 : Int) : TW w1 (.slice (some ⟨U.heap.size, 0, none⟩) 0 0) (.slice (some ⟨U.heap.size + 1, 0, none⟩) 1 1) [] [(k1, k2)] ((U.alloc (.cells #[] 44)).alloc (.cells #[.int .i64 k1, .int .i64 k2] 44)) := by
  refine ⟨row_below (ol_made U _ hb.size) (Go.Joins.below_alloc1 _ _), ?_, fun g e h => ?_, below_new (below_new hb _) _⟩
  · have := ol_one (T := 44) eR_len (U.alloc (.cells #[] 44)) w1.heap.size (by rw [World.size_alloc]; have := hb.size; omega) (k1, k2)
    rw [World.size_alloc] at this; exact this
  · cases e; have := Option.some.inj h; exact absurd this (by show ¬ U.heap.size + 1 = U.heap.size; omega)
theorem tw_b (w1 U : World) (hb : Below w1.heap.size w1 U) (k1 k2 : Int) : TW w1 (.slice (some ⟨U.heap.size + 1, 0, none⟩) 0 0) (.slice (some ⟨U.heap.size, 0, none⟩) 1 1) [] [(k1, k2)] ((U.alloc (.cells #[.int .i64 k1, .int .i64 k2] 44)).alloc (.cells #[] 44)) := by
  refine ⟨?_, row_below (ol_one (T := 44) eR_len U w1.heap.size hb.size (k1, k2)) (Go.Joins.below_alloc1 _ _), fun g e h => ?_, below_new (below_new hb _) _⟩
  · have := ol_made (T := 44) (k := 2) (enc := eR) (U.alloc (.cells #[.int .i64 k1, .int .i64 k2] 44)) w1.heap.size (by rw [World.size_alloc]; have := hb.size; omega)
    rw [World.size_alloc] at this; exact this
  · cases e; have := Option.some.inj h; exact absurd this (by show ¬ U.heap.size = U.heap.size + 1; omega)
set_option maxHeartbeats 4000000 in
theorem rframes_any (g o n c : Nat) (B : Nat → Int) (hB : ∀ i, 0 ≤ B i ∧ B i < 256) (hc : n ≤ c) (F k1 k2 : Int) (w : World) (lg : g < w.heap.size) (hcs : ∀ i, i < n → w.cell? ⟨g, o + i, none⟩ = some (.int .u8 (B i))) :
    Calls Try.prog 19 #[.slice (some ⟨g, o, none⟩) n c, .int .i64 F, .agg #[.int .i64 k1, .int .i64 k2]] w fun e w' => ∃ v' z M, e = .returned (.tuple #[v', .int .i64 z]) ∧ RL w' w.heap.size v' M ∧ FZ B n F (k1, k2) z M ∧ M.length ≤ 5000 ∧ Below w.heap.size w w' := by
  by_cases hG : Good F (k1, k2)
  rotate_left
  · refine (rframes_bad _ F k1 k2 hG w).mono ?_
    rintro e w' ⟨rfl, hb⟩
    exact ⟨_, 1, [], rfl, ll_nil _ _ _ _, Or.inl ⟨hG, rfl, rfl⟩, by simp, hb⟩
  have HG : Hid (Good F (k1, k2)) := hG
  obtain ⟨g1, g2, g3, g4, g5⟩ := hG
  simp only at g3 g4 g5
  have d1 : decide (F < 1) = false := decide_eq_false (by omega)
  have d2 : decide (1048576 < F) = false := decide_eq_false (by omega)
  have d3 : decide (k1 < 0) = false := decide_eq_false (by omega)
  have d4 : decide (k2 < k1) = false := decide_eq_false (by omega)
  have d5 : decide (F < k2) = false := decide_eq_false (by omega)
  have b0 : Below w.heap.size w (w.alloc (.cells #[.int .i64 k1, .int .i64 k2] 44)) := Go.Joins.below_alloc1 _ _
  have PC : Hid _ := rparse_any g o n c B hB hc (w.alloc (.cells #[.int .i64 k1, .int .i64 k2] 44)) (Nat.lt_of_lt_of_le lg b0.size) (fun i hi => (b0.cell (p := ⟨g, o + i, none⟩) lg).trans (hcs i hi))
  have HWF : Hid (∀ x ∈ areasL B (n / 20), x.wf) := areas_wf hB _
  have HB0 : Hid (Below w.heap.size w (w.alloc (.cells #[.int .i64 k1, .int .i64 k2] 44)) ∧ (w.alloc (.cells #[.int .i64 k1, .int .i64 k2] 44)).heap.size = w.heap.size + 1 ∧ Blk (w.alloc (.cells #[.int .i64 k1, .int .i64 k2] 44)) w.heap.size [.int .i64 k1, .int .i64 k2] 44) := ⟨b0, World.size_alloc _ _, Blk.made w [.int .i64 k1, .int .i64 k2] 44⟩
  clear hB hcs b0
  go_enter Try.func19, Try.ntmps19
  go_wp2_with fail
  refine Calls.mono PC.out ?_
  rintro e w1 ⟨v8, z, A, rfl, R8, pz, B1⟩
  have H8 : Hid (LL 3 eA w1 w.heap.size v8 A) := R8.low (by have := HB0.out.2.1; omega)
  have HPZ : Hid (PZ B n z A) := pz
  have HB1 : Hid (Below w.heap.size w w1) := HB0.out.1.trans (B1.mono (by have := HB0.out.2.1; omega))
  have q1 : w1.cell? ⟨w.heap.size, 0, none⟩ = some (.int .i64 k1) := (HB0.out.2.2.below B1).cell 0
  have q2 : w1.cell? ⟨w.heap.size, 1, none⟩ = some (.int .i64 k2) := (HB0.out.2.2.below B1).cell 1
  clear R8 pz B1 PC HB0
  by_cases cz : z = 0
  rotate_left
  · have e1 : (z != 0) = true := by simp [cz]
    have HZ : Hid (z ≠ 0) := cz
    go_wp2_with fail
    go_returns
    exact ⟨_, _, _, rfl, ll_nil _ _ _ _, Or.inr (Or.inl ⟨HG.out, z, A, HPZ.out, HZ.out, rfl, rfl⟩), by simp, HB1.out⟩
  subst cz
  have HA : Hid (A.length ≤ 64 ∧ ∀ x ∈ A, x.wf ∧ x.f + x.l < 18446744073709551616) := by
    obtain ⟨n1, n2, n3, n4⟩ := HPZ.out.ok
    refine ⟨by rw [n4, areas_len]; omega, fun x hx => ?_⟩
    have hw := HWF.out x (by rw [← n4]; exact hx)
    exact ⟨hw, (fit_iff hw).1 (n3 x hx)⟩
  obtain ⟨p8, c8, hv8, _, _, rd⟩ := H8.out.form
  have RD : Hid (∀ i (hi : i < A.length), ∃ g o, p8 = some ⟨g, o, none⟩ ∧ w.heap.size ≤ g ∧ g < w1.heap.size ∧ ∀ j, j < 3 → w1.cell? ⟨g, o + i * 3 + j, none⟩ = (eA A[i])[j]?) := rd
  obtain ⟨m, hm⟩ : ∃ m, A.length = m := ⟨_, rfl⟩
  have HM : Hid (A.length = m) := hm
  have m9 : m ≤ 64 := by rw [← hm]; exact HA.out.1
  rw [hm] at hv8
  subst hv8
  clear rd hm H8
  have uF : IntKind.u64.wrap F = F := by rw [IntKind.wrap_u64, Int.emod_eq_of_lt (by omega) (by omega)]
  obtain ⟨kb, hkb⟩ : ∃ kb, w.heap.size = kb := ⟨_, rfl⟩
  have HKB : Hid (w.heap.size = kb) := hkb
  rw [hkb] at q1 q2
  go_upto_region 6 with fail
  clear hkb
  go_cut [10, 11] (fun v u W => Hid (TW w1 v u (ruseL F (A.take 0)) (rawayL F (k1, k2) (A.take 0)) W))
  case first =>
    show _
    refine wp_region_noPanic ?_
    refine wp_region_held_drew (S := fun W => W.cell? ⟨kb, 0, none⟩ = some (.int .i64 k1) ∧ W.cell? ⟨kb, 1, none⟩ = some (.int .i64 k2)) (by kernel_rfl) ?_ (fun hHeld => ?_)
    · exact ⟨q1, q2⟩
    have BU : Hid (Below w1.heap.size w1 w1.drew) := below_drew (Below.refl _ _)
    generalize w1.drew = U at hHeld BU ⊢
    refine wpAnyH_take (i := 1) (oi := ⟨some 48, _, _, _, _, none⟩) (v := (.agg #[.int .i64 k1, .int .i64 k2])) rfl (by kernel_rfl) (by kernel_rfl) (by kernel_rfl) (fun _ _ _ h => h) (Or.inl ⟨by rfl, ?_⟩) (by assumption) ?_
    · intro w hSw; (try dsimp only at hSw); have r1 : w.cell? ⟨kb, 0, none⟩ = some (.int .i64 k1) := hSw.1; have r2 : w.cell? ⟨kb, 1, none⟩ = some (.int .i64 k2) := hSw.2; (try go_simp); (try simp [*])
    try simp only [Act.put, List.setIfInBounds_toArray, List.set_cons_zero, List.set_cons_succ]
    refine wpAnyH_ready (rs := [0, 2]) (by kernel_rfl) (by simp) ?_
    refine AllReadyH.cons (o := ⟨some 47, _, _, _, _, none⟩) rfl (fun K hK => ?_) (AllReadyH.cons (o := ⟨some 49, _, _, _, _, none⟩) rfl (fun K hK => ?_) AllReadyH.nil)
    · go_simp
      refine hK.out _ _ ⟨(World.cell?_alloc_past _ _ _ (lt_of_cell hHeld.1)).trans hHeld.1, (World.cell?_alloc_past _ _ _ (lt_of_cell hHeld.2)).trans hHeld.2⟩ (fun hHeld2 => ?_)
      clear hK K hHeld
      have hHeld := hHeld2
      clear hHeld2
      try simp only [Act.put, List.setIfInBounds_toArray, List.set_cons_zero, List.set_cons_succ]
      refine wpAnyH_take (i := 3) (oi := ⟨some 10, _, _, _, _, none⟩) (v := ?_) rfl (by kernel_rfl) (by kernel_rfl) (by kernel_rfl) (fun _ _ _ h => h) (Or.inl ⟨by rfl, ?_⟩) (by assumption) ?_
      rotate_left
      · intro w hSw; (try dsimp only at hSw); go_simp; (try with_reducible rfl)
      try simp only [Act.put, List.setIfInBounds_toArray, List.set_cons_zero, List.set_cons_succ]
      refine wpAnyH_ready (rs := [2]) (by kernel_rfl) (by simp) ?_
      refine AllReadyH.cons (o := ⟨some 49, _, _, _, _, none⟩) rfl (fun K hK => ?_) AllReadyH.nil
      go_simp
      refine hK.out _ _ ⟨(World.cell?_alloc_past _ _ _ (lt_of_cell hHeld.1)).trans hHeld.1, (World.cell?_alloc_past _ _ _ (lt_of_cell hHeld.2)).trans hHeld.2⟩ (fun hHeld2 => ?_)
      clear hK K hHeld
      have hHeld := hHeld2
      clear hHeld2
      try simp only [Act.put, List.setIfInBounds_toArray, List.set_cons_zero, List.set_cons_succ]
      refine wpAnyH_take (i := 4) (oi := ⟨some 11, _, _, _, _, none⟩) (v := ?_) rfl (by kernel_rfl) (by kernel_rfl) (by kernel_rfl) (fun _ _ _ h => h) (Or.inl ⟨by rfl, ?_⟩) (by assumption) ?_
      rotate_left
      · intro w hSw; (try dsimp only at hSw); go_simp; (try with_reducible rfl)
      try simp only [Act.put, List.setIfInBounds_toArray, List.set_cons_zero, List.set_cons_succ]
      clear hHeld
      refine wpAnyH_done (by kernel_rfl) ?_ _
      refine NoPanic.normal ?_
      go_wp2_with fail
      go_meet
      exact tw_a w1 U BU.out k1 k2
    · go_simp
      refine hK.out _ _ ⟨(World.cell?_alloc_past _ _ _ (lt_of_cell hHeld.1)).trans hHeld.1, (World.cell?_alloc_past _ _ _ (lt_of_cell hHeld.2)).trans hHeld.2⟩ (fun hHeld2 => ?_)
      clear hK K hHeld
      have hHeld := hHeld2
      clear hHeld2
      try simp only [Act.put, List.setIfInBounds_toArray, List.set_cons_zero, List.set_cons_succ]
      refine wpAnyH_ready (rs := [0]) (by kernel_rfl) (by simp) ?_
      refine AllReadyH.cons (o := ⟨some 47, _, _, _, _, none⟩) rfl (fun K hK => ?_) AllReadyH.nil
      go_simp
      refine hK.out _ _ ⟨(World.cell?_alloc_past _ _ _ (lt_of_cell hHeld.1)).trans hHeld.1, (World.cell?_alloc_past _ _ _ (lt_of_cell hHeld.2)).trans hHeld.2⟩ (fun hHeld2 => ?_)
      clear hK K hHeld
      have hHeld := hHeld2
      clear hHeld2
      try simp only [Act.put, List.setIfInBounds_toArray, List.set_cons_zero, List.set_cons_succ]
      refine wpAnyH_take (i := 3) (oi := ⟨some 10, _, _, _, _, none⟩) (v := ?_) rfl (by kernel_rfl) (by kernel_rfl) (by kernel_rfl) (fun _ _ _ h => h) (Or.inl ⟨by rfl, ?_⟩) (by assumption) ?_
      rotate_left
      · intro w hSw; (try dsimp only at hSw); go_simp; (try with_reducible rfl)
      try simp only [Act.put, List.setIfInBounds_toArray, List.set_cons_zero, List.set_cons_succ]
      refine wpAnyH_take (i := 4) (oi := ⟨some 11, _, _, _, _, none⟩) (v := ?_) rfl (by kernel_rfl) (by kernel_rfl) (by kernel_rfl) (fun _ _ _ h => h) (Or.inl ⟨by rfl, ?_⟩) (by assumption) ?_
      rotate_left
      · intro w hSw; (try dsimp only at hSw); go_simp; (try with_reducible rfl)
      try simp only [Act.put, List.setIfInBounds_toArray, List.set_cons_zero, List.set_cons_succ]
      clear hHeld
      refine wpAnyH_done (by kernel_rfl) ?_ _
      refine NoPanic.normal ?_
      go_wp2_with fail
      go_meet
      exact tw_b w1 U BU.out k1 k2
  have T0 := hcut
  clear q1 q2 hcut
  go_wp2_with fail
  go_loopw [10, 11, 52] (fun u a i W => ∃ k : Nat, k ≤ m ∧ i = .int .i64 k ∧ Hid (TW w1 u a (ruseL F (A.take k)) (rawayL F (k1, k2) (A.take k)) W)) (fun _ _ i _ => m - (Go.RowKit.intOf i).toNat)
  case atStart => exact ⟨0, by omega, rfl, T0⟩
  case round =>
    clear T0
    obtain ⟨k, hk, rfl, T⟩ := hrel
    have UL := ruse_len F (A.take k)
    have AL := raway_len F (k1, k2) (A.take k)
    rw [List.length_take] at UL AL
    by_cases ck : k < m
    rotate_left
    · obtain rfl : k = m := by omega
      have e9 : A.take k = A := by rw [← HM.out, List.take_length]
      rw [e9] at T UL AL
      have U2 : (ruseL F A).length * ((rawayL F (k1, k2) A).length + 1) ≤ 64 * 66 := Nat.mul_le_mul (by omega) (by omega)
      have LC : Hid _ := rless_any 0 0 u10 u11 (ruseL F A) (rawayL F (k1, k2) A) (by omega) (by omega) wr ((ol_ll eR_len T.out.o1).low (Nat.zero_le _)) ((ol_ll eR_len T.out.o2).low (Nat.zero_le _))
      have HU : Hid ((ruseL F A).length * ((rawayL F (k1, k2) A).length + 1) ≤ 64 * 66) := U2
      have HW : Hid (Below w.heap.size w wr) := below_then HB1.out T.out.bel
      have dk : decide ((k : Int) < (k : Int)) = false := by simp
      clear T UL AL U2 e9
      go_wp2_with fail
      refine Calls.mono LC.out ?_
      rintro e w3 ⟨v', M, rfl, O3, C3, S3, L3, B3⟩
      have E3 : Hid (RL w3 w.heap.size v' M ∧ Can M ∧ (∀ x, Has M x ↔ FR F (k1, k2) A x) ∧ M.length ≤ 5000 ∧ Below w.heap.size w w3) := ⟨(ol_ll eR_len O3).low HW.out.size, C3, fun x => (S3 x).trans (clip_any F (k1, k2) A x), by omega, below_then HW.out B3⟩
      obtain ⟨p9, c9, hv9, _, _, _⟩ := (ol_ll eR_len O3).form
      obtain ⟨l9, hl9⟩ : ∃ l9, M.length = l9 := ⟨_, rfl⟩
      rw [hl9] at hv9
      subst hv9
      have HL9 : Hid (M.length = l9) := hl9
      clear O3 C3 S3 L3 B3 LC hl9
      by_cases c0 : l9 = 0
      · subst c0
        go_wp2_with fail
        go_returns
        refine ⟨_, _, _, rfl, ll_nil _ _ _ _, Or.inr (Or.inr ⟨HG.out, A, HPZ.out, can_nil, ?_, ?_⟩), by simp, E3.out.2.2.2.2⟩
        · have : M = [] := List.eq_nil_of_length_eq_zero HL9.out
          have q := E3.out.2.2.1
          rw [this] at q
          exact q
        · rfl
      · have e0 : ((l9 : Int) == 0) = false := by simp; omega
        have e00 : ¬ ((l9 : Int) = 0) := by omega
        go_wp2_with fail
        go_returns
        exact ⟨_, _, M, rfl, E3.out.1, Or.inr (Or.inr ⟨HG.out, A, HPZ.out, E3.out.2.1, E3.out.2.2.1, by rw [if_neg (by rw [HL9.out]; exact c0)]⟩), E3.out.2.2.2.1, E3.out.2.2.2.2⟩
    have dk : decide ((k : Int) < (m : Int)) = true := decide_eq_true (by omega)
    have d0 : decide ((k : Int) < 0) = false := by simp
    have kS : k < A.length := by rw [HM.out]; exact ck
    obtain ⟨ga, oa, rfl, _, la, rc⟩ := RD.out k kS
    have y0 : wr.cell? ⟨ga, oa + k * 3, none⟩ = some (.int .u64 A[k].f) := (World.cell?_of_block (T.out.bel.block ga la)).trans (rc 0 (by omega))
    have y1 : wr.cell? ⟨ga, oa + k * 3 + 1, none⟩ = some (.int .u64 A[k].l) := (World.cell?_of_block (T.out.bel.block ga la)).trans (rc 1 (by omega))
    have y2 : wr.cell? ⟨ga, oa + k * 3 + 2, none⟩ = some (.int .u32 A[k].k) := (World.cell?_of_block (T.out.bel.block ga la)).trans (rc 2 (by omega))
    have HX := HA.out.2 A[k] (List.getElem_mem kS)
    have U1 : Hid (A[k].k = 1 → ruseL F (A.take (k + 1)) = ruseL F (A.take k) ++ [ruseR F A[k]] ∧ rawayL F (k1, k2) (A.take (k + 1)) = rawayL F (k1, k2) (A.take k)) := fun h => ⟨ruse_yes kS h, raway_no kS h⟩
    have U2 : Hid (A[k].k ≠ 1 → ruseL F (A.take (k + 1)) = ruseL F (A.take k) ∧ rawayL F (k1, k2) (A.take (k + 1)) = rawayL F (k1, k2) (A.take k) ++ [rtchR F A[k]]) := fun h => ⟨ruse_no kS h, raway_yes kS h⟩
    generalize A[k] = x at y0 y1 y2 HX U1 U2
    obtain ⟨xf, xl, xk⟩ := x
    obtain ⟨⟨⟨x0, x1⟩, ⟨x2, x3⟩, _⟩, x4⟩ := HX
    simp only at y0 y1 y2 x0 x1 x2 x3 x4 U1 U2
    have ULN : Hid ((ruseL F (A.take k)).length ≤ 1048576 ∧ (rawayL F (k1, k2) (A.take k)).length ≤ 1048576) := ⟨by omega, by omega⟩
    have TB : Hid (TW w1 u10 u11 (ruseL F (A.take k)) (rawayL F (k1, k2) (A.take k)) (wr.alloc (.cells #[.int .u64 xf, .int .u64 xl, .int .u32 xk] 35))) := T.out.below (Go.Joins.below_alloc1 _ _)
    clear T rc la UL AL
    by_cases cu : xk = 1
    · subst cu
      obtain ⟨N1, N2⟩ := U1.out rfl
      obtain ⟨aa, haa⟩ : ∃ aa, aa = min ((xf + 4095) / 4096) F := ⟨_, rfl⟩
      obtain ⟨bb, hbb⟩ : ∃ bb, bb = min ((xf + xl) / 4096) F := ⟨_, rfl⟩
      have WC : Hid (∀ W : World, _) := fun W => rwhole_any xf xl 1 F x0 x2 x4 (by omega) (by omega) aa bb haa hbb W
      have NX : Hid (ruseL F (A.take (k + 1)) = ruseL F (A.take k) ++ [(aa, bb)] ∧ rawayL F (k1, k2) (A.take (k + 1)) = rawayL F (k1, k2) (A.take k)) := ⟨by rw [N1, haa, hbb]; rfl, N2⟩
      clear N1 N2 U1 U2 haa hbb x0 x1 x2 x3 x4
      go_upto_region 11 with fail
      have z0 : (wr.alloc (.cells #[.int .u64 xf, .int .u64 xl, .int .u32 1] 35)).cell? ⟨wr.heap.size, 0, none⟩ = some (.int .u64 xf) := (Blk.made wr [.int .u64 xf, .int .u64 xl, .int .u32 1] 35).cell 0
      have z1 : (wr.alloc (.cells #[.int .u64 xf, .int .u64 xl, .int .u32 1] 35)).cell? ⟨wr.heap.size, 1, none⟩ = some (.int .u64 xl) := (Blk.made wr [.int .u64 xf, .int .u64 xl, .int .u32 1] 35).cell 1
      have z2 : (wr.alloc (.cells #[.int .u64 xf, .int .u64 xl, .int .u32 1] 35)).cell? ⟨wr.heap.size, 2, none⟩ = some (.int .u32 1) := (Blk.made wr [.int .u64 xf, .int .u64 xl, .int .u32 1] 35).cell 2
      clear y0 y1 y2
      generalize wr.alloc (.cells #[.int .u64 xf, .int .u64 xl, .int .u32 1] 35) = wx at TB z0 z1 z2 ⊢
      generalize wr.heap.size = xb at z0 z1 z2 ⊢
      go_wp2_with fail
      refine Calls.mono (WC.out _) ?_
      rintro e w4 ⟨rfl, hb⟩
      have T4 : Hid (TW w1 u10 u11 (ruseL F (A.take k)) (rawayL F (k1, k2) (A.take k)) w4) := TB.out.below hb
      obtain ⟨v', W2, r, T5⟩ := T4.out.app ULN.out.1 (aa, bb)
      have T6 : Hid (TW w1 v' u11 (ruseL F (A.take (k + 1))) (rawayL F (k1, k2) (A.take (k + 1))) W2) := by rw [NX.out.1, NX.out.2]; exact T5
      clear hb TB z0 z1 z2 WC T4 T5 NX ULN
      go_wp2_with (at_builtin; refine wpList_app rfl _ _ 38 rfl u10 (.slice (some ⟨w4.heap.size, 0, none⟩) 1 1) rfl rfl v' W2 r ?_)
      go_roundw
      case rel => exact ⟨k + 1, by omega, by go_num, T6⟩
      case measure => simp [Go.RowKit.intOf]; omega
    · have eu : (xk == 1) = false := by simp [cu]
      obtain ⟨N1, N2⟩ := U2.out cu
      obtain ⟨⟨aa, bb⟩, haa⟩ : ∃ q, rtchR F ⟨xf, xl, xk⟩ = q := ⟨_, rfl⟩
      have TC : Hid (∀ W : World, Calls Try.prog 35 #[.agg #[.int .u64 xf, .int .u64 xl, .int .u32 xk], .int .u64 F] W fun e w' => e = .returned (.agg #[.int .i64 aa, .int .i64 bb]) ∧ Below W.heap.size W w') := fun W => by
        unfold rtchR at haa
        by_cases l0 : xl = 0
        · subst l0
          rw [if_pos rfl] at haa
          cases haa
          exact rtouched_none xf xk F W
        · rw [if_neg l0] at haa
          cases haa
          exact rtouched_any xf xl xk F x0 (by omega) x4 (by omega) (by omega) _ _ rfl rfl W
      rw [haa] at N2
      have NX : Hid (ruseL F (A.take (k + 1)) = ruseL F (A.take k) ∧ rawayL F (k1, k2) (A.take (k + 1)) = rawayL F (k1, k2) (A.take k) ++ [(aa, bb)]) := ⟨N1, N2⟩
      clear N1 N2 U1 U2 haa x0 x1 x2 x3 x4
      go_upto_region 12 with fail
      have z0 : (wr.alloc (.cells #[.int .u64 xf, .int .u64 xl, .int .u32 xk] 35)).cell? ⟨wr.heap.size, 0, none⟩ = some (.int .u64 xf) := (Blk.made wr [.int .u64 xf, .int .u64 xl, .int .u32 xk] 35).cell 0
      have z1 : (wr.alloc (.cells #[.int .u64 xf, .int .u64 xl, .int .u32 xk] 35)).cell? ⟨wr.heap.size, 1, none⟩ = some (.int .u64 xl) := (Blk.made wr [.int .u64 xf, .int .u64 xl, .int .u32 xk] 35).cell 1
      have z2 : (wr.alloc (.cells #[.int .u64 xf, .int .u64 xl, .int .u32 xk] 35)).cell? ⟨wr.heap.size, 2, none⟩ = some (.int .u32 xk) := (Blk.made wr [.int .u64 xf, .int .u64 xl, .int .u32 xk] 35).cell 2
      clear y0 y1 y2
      generalize wr.alloc (.cells #[.int .u64 xf, .int .u64 xl, .int .u32 xk] 35) = wx at TB z0 z1 z2 ⊢
      generalize wr.heap.size = xb at z0 z1 z2 ⊢
      go_wp2_with fail
      refine Calls.mono (TC.out _) ?_
      rintro e w4 ⟨rfl, hb⟩
      have T4 : Hid (TW w1 u10 u11 (ruseL F (A.take k)) (rawayL F (k1, k2) (A.take k)) w4) := TB.out.below hb
      obtain ⟨v', W2, r, T5⟩ := T4.out.swap.app ULN.out.2 (aa, bb)
      have T6 : Hid (TW w1 u10 v' (ruseL F (A.take (k + 1))) (rawayL F (k1, k2) (A.take (k + 1))) W2) := by rw [NX.out.1, NX.out.2]; exact T5.swap
      clear hb TB T4 T5 TC NX ULN z0 z1 z2
      go_wp2_with (at_builtin; refine wpList_app rfl _ _ 38 rfl u11 (.slice (some ⟨w4.heap.size, 0, none⟩) 1 1) rfl rfl v' W2 r ?_)
      go_roundw
      case rel => exact ⟨k + 1, by omega, by go_num, T6⟩
      case measure => simp [Go.RowKit.intOf]; omega
end Go.Proofs.Ytkgjeemecpigpaa.Bm
