/- The document's Store and Load. -/
import Derived.Test.YtaebihgegiddnaaDoorM1
namespace Go.Proofs.YtaebihgegiddnaaDoor
open Go.ChangeShapes Go.WideShapes Go.ChangeAt Go.RowKit Go.Maps
set_option linter.unusedSimpArgs false
set_option linter.unusedVariables false
set_option maxRecDepth 8000

set_option maxHeartbeats 4000000 in
theorem rstore_any (f : Int) (sv : Value) (mb n : Nat) (M : Int → Int) (addr : Int) (size : Nat) (x : Int) (a0 : 0 ≤ addr) (a1 : addr + size ≤ 18446744073709551616) (s8 : size ≤ 8) (x0 : 0 ≤ x) (x1 : x < 18446744073709551616) (w : World) (h : BMem w mb n M) (hn : n + 8 < maxLen) (hsv : sv.oneCell' = true) :
    Calls Tryd.prog 16 #[.agg #[.int .i64 f, sv, .map (some mb)], .int .u64 addr, .int .i64 size, .int .u64 x] w fun e w' => e = .returned (.tuple #[]) ∧ BMem w' mb (n + 8) (mset M addr size x) ∧ w.grownBy w' (some mb) := by
  have hl := h.lt
  have M0 : Hid (BMem w mb n M) := h
  clear h
  go_enter Tryd.func16, Tryd.ntmps16
  go_wp2_with fail
  go_loopw [8] (fun i W => ∃ (j : Nat), j ≤ size ∧ i = .int .i64 j ∧ Hid (BMem W mb (n + j) (mset M addr j x)) ∧ Hid (w.grownBy W (some mb)) ∧ W.cell? ⟨w.heap.size, 2, none⟩ = some (.map (some mb)) ∧ w.heap.size < W.heap.size) (fun i _ => size - (intOf i).toNat)
  case atStart => exact ⟨0, by omega, rfl, (by show BMem _ _ _ _; rw [show ((0 : Nat) : Int) = 0 from rfl, mset_zero]; exact M0.out.kept (World.grownBy_alloc _ _ none) (by simp)), World.grownBy_alloc _ _ _, by simp, by simp⟩
  case round =>
    obtain ⟨j, hj, rfl, hM, hG, c2, lw⟩ := hrel
    by_cases cj : j < size
    · have hd : decide ((j : Int) < (size : Int)) = true := by simp; omega
      have j0 : (0 : Int) ≤ (j : Int) := by omega
      have j8 : (j : Int) < 8 := by omega
      have m0 : 0 ≤ 8 * (j : Int) := by omega
      have m1 : 8 * (j : Int) < 64 := by omega
      have m2 : ¬ (8 * (j : Int) < 0) := by omega
      have m3 : ¬ (64 ≤ 8 * (j : Int)) := by omega
      obtain ⟨z, hz⟩ : ∃ z, z = x / 2 ^ (8 * (j : Int)).toNat := ⟨_, rfl⟩
      have zz : x / 2 ^ (8 * (j : Int)).toNat = x / 256 ^ j := by rw [show (8 * (j : Int)).toNat = 8 * j by omega, pow256]
      have z0 : 0 ≤ z := by rw [hz]; exact Int.ediv_nonneg x0 (Int.le_of_lt (Int.pow_pos (by omega)))
      have z1 : z < 18446744073709551616 := by rw [hz]; exact Int.lt_of_le_of_lt (Int.ediv_le_self _ x0) x1
      have hA : bits .and .u64 z 255 = z % 256 := and255 z z0 z1
      have NX : Hid (mset M addr ((j : Int) + 1) x = bput (mset M addr j x) (addr + j) (z % 256)) := by show _ = _; rw [mset_next, hz, zz]
      have ZW : Hid (x / 2 ^ (8 * (j : Int)).toNat = z) := hz.symm
      have AW : Hid (addr + (j : Int) < 18446744073709551616) := by show _ < _; omega
      clear hz zz
      go_wp2_with fail
      refine wp_region_noPanic ?_
      refine wp_region_held_drew (S := fun c => c.cell? ⟨w.heap.size, 2, none⟩ = some (.map (some mb))) (by kernel_rfl) ?_ (fun hHeld => ?_)
      · exact c2
      refine wpAnyH_take (i := 0) (oi := ⟨some 14, _, _, _, _, none⟩) (v := ?_) rfl (by kernel_rfl) (by kernel_rfl) (by kernel_rfl) (fun _ _ _ h => h) (Or.inl ⟨by rfl, ?_⟩) (by assumption) ?_
      rotate_left
      · intro w hSw; (try dsimp only at hSw); go_simp; (try with_reducible rfl)
      try simp only [Act.put, List.setIfInBounds_toArray, List.set_cons_zero, List.set_cons_succ]
      refine wpAnyH_take (i := 1) (oi := ⟨some 15, _, _, _, _, none⟩) (v := (.map (some mb))) rfl (by kernel_rfl) (by kernel_rfl) (by kernel_rfl) (fun _ _ _ h => h) (Or.inl ⟨by rfl, ?_⟩) (by assumption) ?_
      · intro w hSw; (try dsimp only at hSw); have q2 : w.cell? ⟨_, 2, none⟩ = some (.map (some mb)) := hSw; go_simp; (try simp)
      try simp only [Act.put, List.setIfInBounds_toArray, List.set_cons_zero, List.set_cons_succ]
      refine wpAnyH_take (i := 2) (oi := ⟨some 16, _, _, _, _, none⟩) (v := ?_) rfl (by kernel_rfl) (by kernel_rfl) (by kernel_rfl) (fun _ _ _ h => h) (Or.inl ⟨by rfl, ?_⟩) (by assumption) ?_
      rotate_left
      · intro w hSw; (try dsimp only at hSw); go_simp; (try with_reducible rfl)
      try simp only [Act.put, List.setIfInBounds_toArray, List.set_cons_zero, List.set_cons_succ]
      refine wpAnyH_take (i := 3) (oi := ⟨some 17, _, _, _, _, none⟩) (v := ?_) rfl (by kernel_rfl) (by kernel_rfl) (by kernel_rfl) (fun _ _ _ h => h) (Or.inl ⟨by rfl, ?_⟩) (by assumption) ?_
      rotate_left
      · intro w hSw; (try dsimp only at hSw); go_simp; (try with_reducible rfl)
      try simp only [Act.put, List.setIfInBounds_toArray, List.set_cons_zero, List.set_cons_succ]
      refine wpAnyH_take (i := 4) (oi := ⟨some 18, _, _, _, _, none⟩) (v := (.int .u64 (j : Int))) rfl (by kernel_rfl) (by kernel_rfl) (by kernel_rfl) (fun _ _ _ h => h) (Or.inl ⟨by rfl, ?_⟩) (by assumption) ?_
      · intro w hSw; (try dsimp only at hSw); skip; go_simp; (try (rw [IntKind.wrap_u64]; omega))
      try simp only [Act.put, List.setIfInBounds_toArray, List.set_cons_zero, List.set_cons_succ]
      refine wpAnyH_take (i := 5) (oi := ⟨some 19, _, _, _, _, none⟩) (v := (.int .u64 (addr + (j : Int)))) rfl (by kernel_rfl) (by kernel_rfl) (by kernel_rfl) (fun _ _ _ h => h) (Or.inl ⟨by rfl, ?_⟩) (by assumption) ?_
      · intro w hSw; (try dsimp only at hSw); have aw := AW.out; go_simp; (try (rw [IntKind.wrap_u64]; omega))
      try simp only [Act.put, List.setIfInBounds_toArray, List.set_cons_zero, List.set_cons_succ]
      refine wpAnyH_take (i := 6) (oi := ⟨some 20, _, _, _, _, none⟩) (v := ?_) rfl (by kernel_rfl) (by kernel_rfl) (by kernel_rfl) (fun _ _ _ h => h) (Or.inl ⟨by rfl, ?_⟩) (by assumption) ?_
      rotate_left
      · intro w hSw; (try dsimp only at hSw); go_simp; (try with_reducible rfl)
      try simp only [Act.put, List.setIfInBounds_toArray, List.set_cons_zero, List.set_cons_succ]
      refine wpAnyH_take (i := 7) (oi := ⟨some 21, _, _, _, _, none⟩) (v := ?_) rfl (by kernel_rfl) (by kernel_rfl) (by kernel_rfl) (fun _ _ _ h => h) (Or.inl ⟨by rfl, ?_⟩) (by assumption) ?_
      rotate_left
      · intro w hSw; (try dsimp only at hSw); go_simp; (try with_reducible rfl)
      try simp only [Act.put, List.setIfInBounds_toArray, List.set_cons_zero, List.set_cons_succ]
      refine wpAnyH_take (i := 8) (oi := ⟨some 22, _, _, _, _, none⟩) (v := (.int .i64 (8 * (j : Int)))) rfl (by kernel_rfl) (by kernel_rfl) (by kernel_rfl) (fun _ _ _ h => h) (Or.inl ⟨by rfl, ?_⟩) (by assumption) ?_
      · intro w hSw; (try dsimp only at hSw); skip; go_simp; (try (rw [IntKind.wrap_i64]; omega))
      try simp only [Act.put, List.setIfInBounds_toArray, List.set_cons_zero, List.set_cons_succ]
      refine wpAnyH_take (i := 9) (oi := ⟨some 23, _, _, _, _, none⟩) (v := (.int .u64 z)) rfl (by kernel_rfl) (by kernel_rfl) (by kernel_rfl) (fun _ _ _ h => h) (Or.inl ⟨by rfl, ?_⟩) (by assumption) ?_
      · intro w hSw; (try dsimp only at hSw); have zw := ZW.out; go_simp; (try simp)
      try simp only [Act.put, List.setIfInBounds_toArray, List.set_cons_zero, List.set_cons_succ]
      refine wpAnyH_take (i := 10) (oi := ⟨some 24, _, _, _, _, none⟩) (v := (.int .u64 (z % 256))) rfl (by kernel_rfl) (by kernel_rfl) (by kernel_rfl) (fun _ _ _ h => h) (Or.inl ⟨by rfl, ?_⟩) (by assumption) ?_
      · intro w hSw; (try dsimp only at hSw); skip; go_simp; (try simp)
      try simp only [Act.put, List.setIfInBounds_toArray, List.set_cons_zero, List.set_cons_succ]
      refine wpAnyH_take (i := 11) (oi := ⟨some 25, _, _, _, _, none⟩) (v := (.int .u8 (z % 256))) rfl (by kernel_rfl) (by kernel_rfl) (by kernel_rfl) (fun _ _ _ h => h) (Or.inl ⟨by rfl, ?_⟩) (by assumption) ?_
      · intro w hSw; (try dsimp only at hSw); skip; go_simp; (try (rw [IntKind.wrap_u8]; omega))
      try simp only [Act.put, List.setIfInBounds_toArray, List.set_cons_zero, List.set_cons_succ]
      have MD : Hid (BMem wr.drew mb (n + j) (mset M addr j x)) := hM
      have GD : Hid (w.grownBy wr.drew (some mb)) := ⟨hG.out.os, hG.out.tape, hG.out.output, hG.out.size, hG.out.block⟩
      have lD : w.heap.size < wr.drew.heap.size := lw
      clear c2
      generalize wr.drew = U at MD GD lD hHeld ⊢
      refine wpAnyH_ready (rs := [12]) (by kernel_rfl) (by simp) ?_
      refine AllReadyH.cons (o := ⟨none, .mapUpdate 26 (.tmp 15) (.tmp 19) (.tmp 25), _, _, _, none⟩) rfl (fun K hK => ?_) AllReadyH.nil
      refine wanted_mp rfl ?_
      refine wp_update_b _ _ _ rfl mb (n + j) _ _ _ rfl rfl rfl (wfU2 (by omega) AW.out) (wfB2 (by omega) (by omega)) MD.out (by omega) ?_
      intro w2 hM2 hg2
      rw [← NX.out] at hM2
      have M2 : Hid (BMem w2 mb (n + (j + 1)) (mset M addr ((j + 1 : Nat) : Int) x)) := hM2
      have G2 : Hid (w.grownBy w2 (some mb)) := grown2 GD.out hg2
      have c3 : w2.cell? ⟨w.heap.size, 2, none⟩ = some (.map (some mb)) := cell_up hg2 lD (by omega) hHeld
      have l3 : w.heap.size < w2.heap.size := Nat.lt_of_lt_of_le lD hg2.size
      refine hK.out _ _ c3 (fun hHeld1 => ?_)
      clear hK K hHeld hHeld1 hM2 hg2 MD GD
      try simp only [Act.put, List.setIfInBounds_toArray, List.set_cons_zero, List.set_cons_succ]
      refine wpAnyH_done (by kernel_rfl) ?_ _
      refine NoPanic.normal ?_
      go_wp2_with fail
      go_roundw
      case rel => exact ⟨j + 1, by omega, by go_num, M2, G2, c3, l3⟩
      case measure => simp [intOf]; omega
    · obtain rfl : j = size := by omega
      have hd : decide ((j : Int) < (j : Int)) = false := by simp
      go_wp2_with fail
      go_end0
      exact ⟨rfl, hM.out.mono (by omega), hG.out⟩
set_option maxHeartbeats 4000000 in
theorem rload_any (f : Int) (sv : Value) (mb n : Nat) (M : Int → Int) (addr : Int) (size : Nat) (a0 : 0 ≤ addr) (a1 : addr + size ≤ 18446744073709551616) (s8 : size ≤ 8) (w : World) (h : BMem w mb n M) (hsv : sv.oneCell' = true) (hB : ∀ t, 0 ≤ M t ∧ M t < 256) :
    Calls Tryd.prog 29 #[.agg #[.int .i64 f, sv, .map (some mb)], .int .u64 addr, .int .i64 size] w fun e w' => e = .returned (.int .u64 (ld M addr size)) ∧ Below w.heap.size w w' := by
  have hl := h.lt
  have M0 : Hid (BMem (w.alloc (.cells #[.int .i64 f, sv, .map (some mb)] 28)) mb n M) := h.kept (World.grownBy_alloc _ _ none) (by simp)
  have B0 : Hid (Below w.heap.size w (w.alloc (.cells #[.int .i64 f, sv, .map (some mb)] 28))) := Go.Joins.below_alloc1 _ _
  have c2 : (w.alloc (.cells #[.int .i64 f, sv, .map (some mb)] 28)).cell? ⟨w.heap.size, 2, none⟩ = some (.map (some mb)) := by simp
  have HB : Hid (∀ t, 0 ≤ M t ∧ M t < 256) := hB
  clear h hB
  go_enter Tryd.func29, Tryd.ntmps29
  go_wp2_with fail
  generalize (w.alloc (.cells #[.int .i64 f, sv, .map (some mb)] 28)) = U at M0 B0 c2 ⊢
  go_loop [7, 8] (fun v i => ∃ (j : Nat), j ≤ size ∧ i = .int .i64 j ∧ v = .int .u64 (ld M addr j)) (fun _ i => size - (intOf i).toNat)
  case atStart => exact ⟨0, by omega, rfl, rfl⟩
  case round =>
    obtain ⟨j, hj, rfl, rfl⟩ := hrel
    by_cases cj : j < size
    · have hd : decide ((j : Int) < (size : Int)) = true := by simp; omega
      have bd := ld_bd HB.out addr j
      obtain ⟨X, hX⟩ : ∃ X, X = ld M addr j := ⟨_, rfl⟩
      rw [← hX] at bd ⊢
      have lk := M0.out.look (k := addr + (j : Int)) (wfU2 (by omega) (by omega))
      obtain ⟨v, hv⟩ : ∃ v, v = M (addr + (j : Int)) := ⟨_, rfl⟩
      have vb := HB.out (addr + (j : Int))
      rw [← hv] at lk vb
      have NX : Hid (ld M addr (j + 1) = X + v * 256 ^ j) := by show _ = _; rw [hX, hv]; rfl
      have w1 : IntKind.u64.wrap (j : Int) = (j : Int) := by rw [IntKind.wrap_u64]; omega
      have w2 : IntKind.u64.wrap (addr + (j : Int)) = addr + (j : Int) := by rw [IntKind.wrap_u64]; omega
      have w3 : IntKind.i64.wrap (8 * (j : Int)) = 8 * (j : Int) := by rw [IntKind.wrap_i64]; omega
      have pw : (2 : Int) ^ (8 * (j : Int)).toNat = 256 ^ j := by rw [show (8 * (j : Int)).toNat = 8 * j by omega, pow256]
      have p7 : (256 : Int) ^ (j + 1) ≤ 18446744073709551616 := pow_le8 (by omega)
      have vp : v * 256 ^ j ≤ 255 * 256 ^ j := Int.mul_le_mul_of_nonneg_right (by omega) (Int.le_of_lt (Int.pow_pos (by omega)))
      have vq : 0 ≤ v * 256 ^ j := Int.mul_nonneg vb.1 (Int.le_of_lt (Int.pow_pos (by omega)))
      have ps : (256 : Int) ^ (j + 1) = 256 * 256 ^ j := by rw [Int.pow_succ]; omega
      have w4 : IntKind.u64.wrap (v * 2 ^ (8 * (j : Int)).toNat) = v * 256 ^ j := by rw [pw, IntKind.wrap_u64]; omega
      have w5 : IntKind.u64.wrap (X + v * 256 ^ j) = X + v * 256 ^ j := by rw [IntKind.wrap_u64]; omega
      have w6 : IntKind.u64.wrap v = v := by rw [IntKind.wrap_u64]; omega
      have m0 : 0 ≤ 8 * (j : Int) := by omega
      have m1 : 8 * (j : Int) < 64 := by omega
      have m2 : ¬ (8 * (j : Int) < 0) := by omega
      have m3 : ¬ (64 ≤ 8 * (j : Int)) := by omega
      clear hX hv bd vb pw p7 vp vq ps
      go_wp2_with fail
      go_round
      case rel => exact ⟨j + 1, by omega, by go_num, by rw [NX.out]⟩
      case measure => simp [intOf]; omega
    · obtain rfl : j = size := by omega
      have hd : decide ((j : Int) < (j : Int)) = false := by simp
      go_wp2_with fail
      go_ret
      exact ⟨rfl, B0.out⟩
end Go.Proofs.YtaebihgegiddnaaDoor
