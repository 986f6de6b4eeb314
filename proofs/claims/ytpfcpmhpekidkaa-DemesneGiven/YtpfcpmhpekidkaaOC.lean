/- Boot maps: Frames. -/
import Derived.Test.YtpfcpmhpekidkaaOB
namespace Go.Proofs.Ytpfcpmhpekidkaa.Bm
open Go.ChangeShapes Go.WideShapes Go.ChangeAt Go.RowKit Go.Maps
set_option linter.unusedSimpArgs false
set_option linter.unusedVariables false
set_option maxRecDepth 8000

theorem frames_bad (v : Value) (F k1 k2 : Int) (h : ¬ Good F (k1, k2)) (w : World) : Calls Try.prog 7 #[v, .int .i64 F, .agg #[.int .i64 k1, .int .i64 k2]] w fun e w' => e = .returned (.tuple #[.slice none 0 0, .int .i64 1]) ∧ Below w.heap.size w w' := by
  by_cases c1 : F < 1
  · have d1 : decide (F < 1) = true := decide_eq_true c1
    go_enter Try.func7, Try.ntmps7
    go_wp2_with fail
    go_returns
    exact ⟨rfl, Go.Joins.below_alloc1 _ _⟩
  have d1 : decide (F < 1) = false := decide_eq_false c1
  by_cases c2 : 1048576 < F
  · have d2 : decide (1048576 < F) = true := decide_eq_true c2
    go_enter Try.func7, Try.ntmps7
    go_wp2_with fail
    go_returns
    exact ⟨rfl, Go.Joins.below_alloc1 _ _⟩
  have d2 : decide (1048576 < F) = false := decide_eq_false c2
  by_cases c3 : k1 < 0
  · have d3 : decide (k1 < 0) = true := decide_eq_true c3
    go_enter Try.func7, Try.ntmps7
    go_wp2_with fail
    go_returns
    exact ⟨rfl, Go.Joins.below_alloc1 _ _⟩
  have d3 : decide (k1 < 0) = false := decide_eq_false c3
  by_cases c4 : k2 < k1
  · have d4 : decide (k2 < k1) = true := decide_eq_true c4
    go_enter Try.func7, Try.ntmps7
    go_wp2_with fail
    go_returns
    exact ⟨rfl, Go.Joins.below_alloc1 _ _⟩
  have d4 : decide (k2 < k1) = false := decide_eq_false c4
  by_cases c5 : F < k2
  · have d5 : decide (F < k2) = true := decide_eq_true c5
    go_enter Try.func7, Try.ntmps7
    go_wp2_with fail
    go_returns
    exact ⟨rfl, Go.Joins.below_alloc1 _ _⟩
  exact absurd (show Good F (k1, k2) from ⟨by omega, by omega, by show 0 ≤ k1; omega, by show k1 ≤ k2; omega, by show k2 ≤ F; omega⟩) h
/-- a list that begins its block -/
def At0 (v : Value) : Prop := ∀ p n c, v = .slice p n c → ∀ a, p = some a → a.off = 0
theorem at0_nil : At0 (.slice none 0 0) := by
  intro p n c e a ha
  cases e; cases ha
theorem at0_row {w : World} {base e s : Nat} {v : Value} {n : Nat} {xs : List Value} (h : w.ownsRow base e s v n xs) : At0 v := by
  intro p n' c e' a ha
  obtain ⟨_, ⟨hv, _⟩ | ⟨g, cap, cur, hv, _⟩⟩ := h
  · rw [hv] at e'; cases e'; cases ha
  · rw [hv] at e'; cases e'; cases ha; rfl
set_option maxHeartbeats 4000000 in
theorem frames_z (g o n c : Nat) (B : Nat → Int) (hB : ∀ i, 0 ≤ B i ∧ B i < 256) (hc : n ≤ c) (F k1 k2 : Int) (w : World) (lg : g < w.heap.size) (hcs : ∀ i, i < n → w.cell? ⟨g, o + i, none⟩ = some (.int .u8 (B i))) :
    Calls Try.prog 7 #[.slice (some ⟨g, o, none⟩) n c, .int .i64 F, .agg #[.int .i64 k1, .int .i64 k2]] w fun e w' => ∃ v' z M, e = .returned (.tuple #[v', .int .i64 z]) ∧ (RL w' w.heap.size v' M ∧ At0 v') ∧ FZ B n F (k1, k2) z M ∧ M.length ≤ 5000 ∧ Below w.heap.size w w' := by
  by_cases hG : Good F (k1, k2)
  rotate_left
  · refine (frames_bad _ F k1 k2 hG w).mono ?_
    rintro e w' ⟨rfl, hb⟩
    exact ⟨_, 1, [], rfl, ⟨ll_nil _ _ _ _, at0_nil⟩, Or.inl ⟨hG, rfl, rfl⟩, by simp, hb⟩
  have HG : Hid (Good F (k1, k2)) := hG
  obtain ⟨g1, g2, g3, g4, g5⟩ := hG
  simp only at g3 g4 g5
  have d1 : decide (F < 1) = false := decide_eq_false (by omega)
  have d2 : decide (1048576 < F) = false := decide_eq_false (by omega)
  have d3 : decide (k1 < 0) = false := decide_eq_false (by omega)
  have d4 : decide (k2 < k1) = false := decide_eq_false (by omega)
  have d5 : decide (F < k2) = false := decide_eq_false (by omega)
  have b0 : Below w.heap.size w (w.alloc (.cells #[.int .i64 k1, .int .i64 k2] 30)) := Go.Joins.below_alloc1 _ _
  have PC : Hid _ := parse_any g o n c B hB hc (w.alloc (.cells #[.int .i64 k1, .int .i64 k2] 30)) (Nat.lt_of_lt_of_le lg b0.size) (fun i hi => (b0.cell (p := ⟨g, o + i, none⟩) lg).trans (hcs i hi))
  have HWF : Hid (∀ x ∈ areasL B (n / 20), x.wf) := areas_wf hB _
  have HB0 : Hid (Below w.heap.size w (w.alloc (.cells #[.int .i64 k1, .int .i64 k2] 30)) ∧ (w.alloc (.cells #[.int .i64 k1, .int .i64 k2] 30)).heap.size = w.heap.size + 1 ∧ Blk (w.alloc (.cells #[.int .i64 k1, .int .i64 k2] 30)) w.heap.size [.int .i64 k1, .int .i64 k2] 30) := ⟨b0, World.size_alloc _ _, Blk.made w [.int .i64 k1, .int .i64 k2] 30⟩
  clear hB hcs b0
  go_enter Try.func7, Try.ntmps7
  go_wp2_with fail
  refine Calls.mono PC.out ?_
  rintro e w1 ⟨v8, z, A, rfl, R8, pz, B1⟩
  have H8 : Hid (LL 3 eA w1 w.heap.size v8 A) := R8.low (by have := HB0.out.2.1; omega)
  have HPZ : Hid (PZ B n z A) := pz
  have HB1 : Hid (Below w.heap.size w w1) := HB0.out.1.trans (B1.mono (by have := HB0.out.2.1; omega))
  have q1 : w1.cell? ⟨w.heap.size, 0, none⟩ = some (.int .i64 k1) := (HB0.out.2.2.below B1).cell 0
  have q2 : w1.cell? ⟨w.heap.size, 1, none⟩ = some (.int .i64 k2) := (HB0.out.2.2.below B1).cell 1
  clear R8 pz B1 PC HB0
  by_cases cz : z = 0
  rotate_left
  · have e1 : (z != 0) = true := by simp [cz]
    have HZ : Hid (z ≠ 0) := cz
    go_wp2_with fail
    go_returns
    exact ⟨_, _, _, rfl, ⟨ll_nil _ _ _ _, at0_nil⟩, Or.inr (Or.inl ⟨HG.out, z, A, HPZ.out, HZ.out, rfl, rfl⟩), by simp, HB1.out⟩
  subst cz
  have HA : Hid (A.length ≤ 64 ∧ ∀ x ∈ A, x.wf ∧ x.f + x.l < 18446744073709551616) := by
    obtain ⟨n1, n2, n3, n4⟩ := HPZ.out.ok
    refine ⟨by rw [n4, areas_len]; omega, fun x hx => ?_⟩
    have hw := HWF.out x (by rw [← n4]; exact hx)
    exact ⟨hw, (fit_iff hw).1 (n3 x hx)⟩
  obtain ⟨p8, c8, hv8, _, _, rd⟩ := H8.out.form
  have RD : Hid (∀ i (hi : i < A.length), ∃ g o, p8 = some ⟨g, o, none⟩ ∧ w.heap.size ≤ g ∧ g < w1.heap.size ∧ ∀ j, j < 3 → w1.cell? ⟨g, o + i * 3 + j, none⟩ = (eA A[i])[j]?) := rd
  obtain ⟨m, hm⟩ : ∃ m, A.length = m := ⟨_, rfl⟩
  have HM : Hid (A.length = m) := hm
  have m9 : m ≤ 64 := by rw [← hm]; exact HA.out.1
  rw [hm] at hv8
  subst hv8
  have T0 : Hid (TW w1 (.slice none 0 0) (.slice (some ⟨w1.heap.size, 0, none⟩) 1 1) (useL F (A.take 0)) (awayL (k1, k2) (A.take 0)) (w1.alloc (.cells #[.int .i64 k1, .int .i64 k2] 30))) :=
    ⟨ol_none _ _ _ _ _, ol_one eR_len w1 _ (Nat.le_refl _) (k1, k2), (fun g e => by cases e), Go.Joins.below_alloc1 _ _⟩
  clear rd hm H8
  go_wp2_with fail
  clear q1 q2
  generalize w1.alloc (.cells #[.int .i64 k1, .int .i64 k2] 30) = w2 at T0 ⊢
  generalize Value.slice (some ⟨w1.heap.size, 0, none⟩) 1 1 = v11 at T0 ⊢
  go_loopw [10, 11, 49] (fun u a i W => ∃ k : Nat, k ≤ m ∧ i = .int .i64 k ∧ Hid (TW w1 u a (useL F (A.take k)) (awayL (k1, k2) (A.take k)) W)) (fun _ _ i _ => m - (Go.RowKit.intOf i).toNat)
  case atStart => exact ⟨0, by omega, rfl, T0⟩
  case round =>
    clear T0
    obtain ⟨k, hk, rfl, T⟩ := hrel
    have UL := use_len F (A.take k)
    have AL := away_len (k1, k2) (A.take k)
    rw [List.length_take] at UL AL
    by_cases ck : k < m
    rotate_left
    · obtain rfl : k = m := by omega
      have e9 : A.take k = A := by rw [← HM.out, List.take_length]
      rw [e9] at T UL AL
      have U2 : (useL F A).length * ((awayL (k1, k2) A).length + 1) ≤ 64 * 66 := Nat.mul_le_mul (by omega) (by omega)
      have LC : Hid _ := less_call 0 0 u10 u11 (useL F A) (awayL (k1, k2) A) (by omega) (by omega) (by omega) wr ((ol_ll eR_len T.out.o1).low (Nat.zero_le _)) ((ol_ll eR_len T.out.o2).low (Nat.zero_le _))
      have HU : Hid ((useL F A).length * ((awayL (k1, k2) A).length + 1) ≤ 64 * 66) := U2
      have HW : Hid (Below w.heap.size w wr) := below_then HB1.out T.out.bel
      have dk : decide ((k : Int) < (k : Int)) = false := by simp
      clear T UL AL U2 e9
      go_wp2_with fail
      refine Calls.mono LC.out ?_
      rintro e w3 ⟨v', M, rfl, O3, C3, S3, L3, B3⟩
      have Z3 : Hid (At0 v') := at0_row O3
      have E3 : Hid (RL w3 w.heap.size v' M ∧ Can M ∧ (∀ x, Has M x ↔ FR F (k1, k2) A x) ∧ M.length ≤ 5000 ∧ Below w.heap.size w w3) := ⟨(ol_ll eR_len O3).low HW.out.size, C3, S3, by have := HU.out; omega, below_then HW.out B3⟩
      obtain ⟨p9, c9, hv9, _, _, _⟩ := (ol_ll eR_len O3).form
      obtain ⟨l9, hl9⟩ : ∃ l9, M.length = l9 := ⟨_, rfl⟩
      rw [hl9] at hv9
      subst hv9
      have HL9 : Hid (M.length = l9) := hl9
      clear O3 C3 S3 L3 B3 LC hl9
      by_cases c0 : l9 = 0
      · subst c0
        go_wp2_with fail
        go_returns
        refine ⟨_, _, _, rfl, ⟨ll_nil _ _ _ _, at0_nil⟩, Or.inr (Or.inr ⟨HG.out, A, HPZ.out, can_nil, ?_, ?_⟩), by simp, E3.out.2.2.2.2⟩
        · have : M = [] := List.eq_nil_of_length_eq_zero HL9.out
          have q := E3.out.2.2.1
          rw [this] at q
          exact q
        · rfl
      · have e0 : ((l9 : Int) == 0) = false := by simp; omega
        have e00 : ¬ ((l9 : Int) = 0) := by omega
        go_wp2_with fail
        go_returns
        exact ⟨_, _, M, rfl, ⟨E3.out.1, Z3.out⟩, Or.inr (Or.inr ⟨HG.out, A, HPZ.out, E3.out.2.1, E3.out.2.2.1, by rw [if_neg (by rw [HL9.out]; exact c0)]⟩), E3.out.2.2.2.1, E3.out.2.2.2.2⟩
    have dk : decide ((k : Int) < (m : Int)) = true := decide_eq_true (by omega)
    have d0 : decide ((k : Int) < 0) = false := by simp
    have kS : k < A.length := by rw [HM.out]; exact ck
    obtain ⟨ga, oa, rfl, _, la, rc⟩ := RD.out k kS
    have y0 : wr.cell? ⟨ga, oa + k * 3, none⟩ = some (.int .u64 A[k].f) := (World.cell?_of_block (T.out.bel.block ga la)).trans (rc 0 (by omega))
    have y1 : wr.cell? ⟨ga, oa + k * 3 + 1, none⟩ = some (.int .u64 A[k].l) := (World.cell?_of_block (T.out.bel.block ga la)).trans (rc 1 (by omega))
    have y2 : wr.cell? ⟨ga, oa + k * 3 + 2, none⟩ = some (.int .u32 A[k].k) := (World.cell?_of_block (T.out.bel.block ga la)).trans (rc 2 (by omega))
    have HX := HA.out.2 A[k] (List.getElem_mem kS)
    have U1 : Hid (A[k].k = 1 → useL F (A.take (k + 1)) = useL F (A.take k) ++ [useR F A[k]] ∧ awayL (k1, k2) (A.take (k + 1)) = awayL (k1, k2) (A.take k)) := fun h => ⟨use_yes kS h, away_no kS h⟩
    have U2 : Hid (A[k].k ≠ 1 → useL F (A.take (k + 1)) = useL F (A.take k) ∧ awayL (k1, k2) (A.take (k + 1)) = awayL (k1, k2) (A.take k) ++ [tchR A[k]]) := fun h => ⟨use_no kS h, away_yes kS h⟩
    generalize A[k] = x at y0 y1 y2 HX U1 U2
    obtain ⟨xf, xl, xk⟩ := x
    obtain ⟨⟨⟨x0, x1⟩, ⟨x2, x3⟩, _⟩, x4⟩ := HX
    simp only at y0 y1 y2 x0 x1 x2 x3 x4 U1 U2
    have ULN : Hid ((useL F (A.take k)).length ≤ 1048576 ∧ (awayL (k1, k2) (A.take k)).length ≤ 1048576) := ⟨by omega, by omega⟩
    have TB : Hid (TW w1 u10 u11 (useL F (A.take k)) (awayL (k1, k2) (A.take k)) (wr.alloc (.cells #[.int .u64 xf, .int .u64 xl, .int .u32 xk] 57))) := T.out.below (Go.Joins.below_alloc1 _ _)
    clear T rc la UL AL
    by_cases cu : xk = 1
    · subst cu
      obtain ⟨N1, N2⟩ := U1.out rfl
      obtain ⟨aa, haa⟩ : ∃ aa, aa = (xf + 4095) / 4096 := ⟨_, rfl⟩
      obtain ⟨bb, hbb⟩ : ∃ bb, bb = (xf + xl) / 4096 := ⟨_, rfl⟩
      obtain ⟨cc, hcc⟩ : ∃ cc, cc = min bb F := ⟨_, rfl⟩
      have WC : Hid (∀ W : World, _) := fun W => whole_any xf xl 1 x0 x2 x4 aa bb haa hbb W
      have BC : Hid (∀ W : World, _) := fun W => below_any aa bb F cc hcc W
      have NX : Hid (useL F (A.take (k + 1)) = useL F (A.take k) ++ [(aa, cc)] ∧ awayL (k1, k2) (A.take (k + 1)) = awayL (k1, k2) (A.take k)) := ⟨by rw [N1, hcc, haa, hbb]; rfl, N2⟩
      clear N1 N2 U1 U2 haa hbb hcc x0 x1 x2 x3 x4
      go_upto_region 14 with fail
      have z0 : (wr.alloc (.cells #[.int .u64 xf, .int .u64 xl, .int .u32 1] 57)).cell? ⟨wr.heap.size, 0, none⟩ = some (.int .u64 xf) := (Blk.made wr [.int .u64 xf, .int .u64 xl, .int .u32 1] 57).cell 0
      have z1 : (wr.alloc (.cells #[.int .u64 xf, .int .u64 xl, .int .u32 1] 57)).cell? ⟨wr.heap.size, 1, none⟩ = some (.int .u64 xl) := (Blk.made wr [.int .u64 xf, .int .u64 xl, .int .u32 1] 57).cell 1
      have z2 : (wr.alloc (.cells #[.int .u64 xf, .int .u64 xl, .int .u32 1] 57)).cell? ⟨wr.heap.size, 2, none⟩ = some (.int .u32 1) := (Blk.made wr [.int .u64 xf, .int .u64 xl, .int .u32 1] 57).cell 2
      clear y0 y1 y2
      generalize wr.alloc (.cells #[.int .u64 xf, .int .u64 xl, .int .u32 1] 57) = wx at TB z0 z1 z2 ⊢
      generalize wr.heap.size = xb at z0 z1 z2 ⊢
      go_wp2_with fail
      refine Calls.mono (WC.out _) ?_
      rintro e w3 ⟨rfl, hb⟩
      have T3 : Hid (TW w1 u10 u11 (useL F (A.take k)) (awayL (k1, k2) (A.take k)) w3) := TB.out.below hb
      clear hb TB z0 z1 z2 WC
      go_wp2_with fail
      refine Calls.mono (BC.out _) ?_
      rintro e w4 ⟨rfl, hb⟩
      have T4 : Hid (TW w1 u10 u11 (useL F (A.take k)) (awayL (k1, k2) (A.take k)) w4) := T3.out.below hb
      obtain ⟨v', W2, r, T5⟩ := T4.out.app ULN.out.1 (aa, cc)
      have T6 : Hid (TW w1 v' u11 (useL F (A.take (k + 1))) (awayL (k1, k2) (A.take (k + 1))) W2) := by rw [NX.out.1, NX.out.2]; exact T5
      clear hb T3 T4 T5 BC NX ULN
      go_wp2_with (at_builtin; refine wpList_app rfl _ _ 25 rfl u10 (.slice (some ⟨w4.heap.size, 0, none⟩) 1 1) rfl rfl v' W2 r ?_)
      go_roundw
      case rel => exact ⟨k + 1, by omega, by go_num, T6⟩
      case measure => simp [Go.RowKit.intOf]; omega
    · have eu : (xk == 1) = false := by simp [cu]
      obtain ⟨N1, N2⟩ := U2.out cu
      obtain ⟨⟨aa, bb⟩, haa⟩ : ∃ q, tchR ⟨xf, xl, xk⟩ = q := ⟨_, rfl⟩
      have TC : Hid (∀ W : World, Calls Try.prog 23 #[.agg #[.int .u64 xf, .int .u64 xl, .int .u32 xk]] W fun e w' => e = .returned (.agg #[.int .i64 aa, .int .i64 bb]) ∧ Below W.heap.size W w') := fun W => by
        unfold tchR at haa
        by_cases l0 : xl = 0
        · subst l0
          rw [if_pos rfl] at haa
          cases haa
          exact touched_none xf xk W
        · rw [if_neg l0] at haa
          cases haa
          exact touched_any xf xl xk x0 (by omega) x4 W
      rw [haa] at N2
      have NX : Hid (useL F (A.take (k + 1)) = useL F (A.take k) ∧ awayL (k1, k2) (A.take (k + 1)) = awayL (k1, k2) (A.take k) ++ [(aa, bb)]) := ⟨N1, N2⟩
      clear N1 N2 U1 U2 haa x0 x1 x2 x3 x4
      go_upto_region 15 with fail
      have z0 : (wr.alloc (.cells #[.int .u64 xf, .int .u64 xl, .int .u32 xk] 57)).cell? ⟨wr.heap.size, 0, none⟩ = some (.int .u64 xf) := (Blk.made wr [.int .u64 xf, .int .u64 xl, .int .u32 xk] 57).cell 0
      have z1 : (wr.alloc (.cells #[.int .u64 xf, .int .u64 xl, .int .u32 xk] 57)).cell? ⟨wr.heap.size, 1, none⟩ = some (.int .u64 xl) := (Blk.made wr [.int .u64 xf, .int .u64 xl, .int .u32 xk] 57).cell 1
      have z2 : (wr.alloc (.cells #[.int .u64 xf, .int .u64 xl, .int .u32 xk] 57)).cell? ⟨wr.heap.size, 2, none⟩ = some (.int .u32 xk) := (Blk.made wr [.int .u64 xf, .int .u64 xl, .int .u32 xk] 57).cell 2
      clear y0 y1 y2
      generalize wr.alloc (.cells #[.int .u64 xf, .int .u64 xl, .int .u32 xk] 57) = wx at TB z0 z1 z2 ⊢
      generalize wr.heap.size = xb at z0 z1 z2 ⊢
      go_wp2_with fail
      refine Calls.mono (TC.out _) ?_
      rintro e w4 ⟨rfl, hb⟩
      have T4 : Hid (TW w1 u10 u11 (useL F (A.take k)) (awayL (k1, k2) (A.take k)) w4) := TB.out.below hb
      obtain ⟨v', W2, r, T5⟩ := T4.out.swap.app ULN.out.2 (aa, bb)
      have T6 : Hid (TW w1 u10 v' (useL F (A.take (k + 1))) (awayL (k1, k2) (A.take (k + 1))) W2) := by rw [NX.out.1, NX.out.2]; exact T5.swap
      clear hb TB T4 T5 TC NX ULN z0 z1 z2
      go_wp2_with (at_builtin; refine wpList_app rfl _ _ 25 rfl u11 (.slice (some ⟨w4.heap.size, 0, none⟩) 1 1) rfl rfl v' W2 r ?_)
      go_roundw
      case rel => exact ⟨k + 1, by omega, by go_num, T6⟩
      case measure => simp [Go.RowKit.intOf]; omega
theorem frames_any (g o n c : Nat) (B : Nat → Int) (hB : ∀ i, 0 ≤ B i ∧ B i < 256) (hc : n ≤ c) (F k1 k2 : Int) (w : World) (lg : g < w.heap.size) (hcs : ∀ i, i < n → w.cell? ⟨g, o + i, none⟩ = some (.int .u8 (B i))) :
    Calls Try.prog 7 #[.slice (some ⟨g, o, none⟩) n c, .int .i64 F, .agg #[.int .i64 k1, .int .i64 k2]] w fun e w' => ∃ v' z M, e = .returned (.tuple #[v', .int .i64 z]) ∧ RL w' w.heap.size v' M ∧ FZ B n F (k1, k2) z M ∧ M.length ≤ 5000 ∧ Below w.heap.size w w' := by
  refine (frames_z g o n c B hB hc F k1 k2 w lg hcs).mono ?_
  rintro e w' ⟨v', z, M, h1, h2, h3⟩
  exact ⟨v', z, M, h1, h2.1, h3⟩
end Go.Proofs.Ytpfcpmhpekidkaa.Bm
