/- The document's Zero, Copy and Clear. -/
import Derived.Test.YtdfalincdgdlcaaM2
namespace Go.Proofs.Ytdfalincdgdlcaa
open Go.ChangeShapes Go.WideShapes Go.ChangeAt Go.RowKit Go.Maps
set_option linter.unusedSimpArgs false
set_option linter.unusedVariables false

set_option maxHeartbeats 4000000 in
theorem rzero_any (f : Int) (sv : Value) (mb n : Nat) (M : Int → Int) (k : Int) (k0 : 0 ≤ k) (k1 : k ≤ 1048576) (w : World) (h : BMem w mb n M) (hsv : sv.oneCell' = true) :
    Calls Try.prog 15 #[.agg #[.int .i64 f, sv, .map (some mb)], .int .i64 k] w fun e w' => e = .returned (.tuple #[]) ∧ BMem w' mb n (mzero M k) ∧ w.grownBy w' (some mb) := by
  have hl := h.lt
  have M0 : Hid (BMem w mb n M) := h
  clear h
  go_enter Try.func15, Try.ntmps15
  go_wp2_with fail
  go_loopw [4] (fun i W => ∃ (j : Nat), j ≤ 4096 ∧ i = .int .i64 j ∧ Hid (BMem W mb n (mzeroN M k j)) ∧ Hid (w.grownBy W (some mb)) ∧ W.cell? ⟨w.heap.size, 2, none⟩ = some (.map (some mb)) ∧ w.heap.size < W.heap.size) (fun i _ => 4096 - (intOf i).toNat)
  case atStart => exact ⟨0, by omega, rfl, (by show BMem _ _ _ _; rw [mzero_none]; exact M0.out.kept (World.grownBy_alloc _ _ none) (by simp)), World.grownBy_alloc _ _ _, by simp, by simp⟩
  case round =>
    obtain ⟨j, hj, rfl, hM, hG, c2, lw⟩ := hrel
    by_cases cj : j < 4096
    · have hd : decide ((j : Int) < 4096) = true := by simp; omega
      have w1 : IntKind.u64.wrap k = k := by rw [IntKind.wrap_u64]; omega
      have w2 : IntKind.u64.wrap (k * 4096) = k * 4096 := by rw [IntKind.wrap_u64]; omega
      have w3 : IntKind.u64.wrap (k * 4096 + (j : Int)) = k * 4096 + (j : Int) := by rw [IntKind.wrap_u64]; omega
      have w4 : IntKind.u64.wrap (j : Int) = (j : Int) := by rw [IntKind.wrap_u64]; omega
      obtain ⟨w2', hdel, hM2, hg2⟩ := hM.out.drop (k := k * 4096 + (j : Int)) (wfU2 (by omega) (by omega))
      rw [← mzero_next] at hM2
      have MN : Hid (BMem w2' mb n (mzeroN M k (j + 1))) := hM2
      have G2 : Hid (w.grownBy w2' (some mb)) := grown2 hG.out hg2
      have c3 : Hid (w2'.cell? ⟨w.heap.size, 2, none⟩ = some (.map (some mb))) := cell_up hg2 lw (by omega) c2
      have l3 : Hid (w.heap.size < w2'.heap.size) := Nat.lt_of_lt_of_le lw hg2.size
      clear hM2 hg2 hM hG
      go_wp2_with fail
      go_roundw
      case rel => exact ⟨j + 1, by omega, by go_num, MN, G2, c3.out, l3.out⟩
      case measure => simp [intOf]; omega
    · obtain rfl : j = 4096 := by omega
      go_wp2_with fail
      go_end0
      exact ⟨rfl, hM.out, hG.out⟩
set_option maxHeartbeats 4000000 in
theorem rclear_any (f : Int) (sv : Value) (mb n : Nat) (M : Int → Int) (k : Int) (k0 : 0 ≤ k) (k1 : k ≤ 1048576) (w : World) (h : BMem w mb n M) (hsv : sv.oneCell' = true) :
    Calls Try.prog 19 #[.agg #[.int .i64 f, sv, .map (some mb)], .int .i64 k] w fun e w' => e = .returned (.bool (clr M k)) ∧ Below w.heap.size w w' := by
  have hl := h.lt
  have M0 : Hid (BMem (w.alloc (.cells #[.int .i64 f, sv, .map (some mb)] 33)) mb n M) := h.kept (World.grownBy_alloc _ _ none) (by simp)
  have B0 : Hid (Below w.heap.size w (w.alloc (.cells #[.int .i64 f, sv, .map (some mb)] 33))) := Go.Joins.below_alloc1 _ _
  have c2 : (w.alloc (.cells #[.int .i64 f, sv, .map (some mb)] 33)).cell? ⟨w.heap.size, 2, none⟩ = some (.map (some mb)) := by simp
  obtain ⟨res, hres⟩ : ∃ res, res = clr M k := ⟨_, rfl⟩
  have HR : Hid (res = clr M k) := hres
  rw [← hres]
  clear h hres
  go_enter Try.func19, Try.ntmps19
  go_wp2_with fail
  generalize (w.alloc (.cells #[.int .i64 f, sv, .map (some mb)] 33)) = U at M0 B0 c2 ⊢
  go_loop [5, 6] (fun b i => ∃ (j : Nat), j ≤ 4096 ∧ i = .int .u64 j ∧ b = .bool (clrN M k j)) (fun _ i => 4096 - (intOf i).toNat)
  case atStart => exact ⟨0, by omega, rfl, by rw [clr_none]⟩
  case round =>
    obtain ⟨j, hj, rfl, rfl⟩ := hrel
    by_cases cj : j < 4096
    · have hd : decide ((j : Int) < 4096) = true := by simp; omega
      have NX : Hid (clrN M k (j + 1) = (clrN M k j && (M (k * 4096 + j) == 0))) := clr_next M k j
      have w1 : IntKind.u64.wrap k = k := by rw [IntKind.wrap_u64]; omega
      have w2 : IntKind.u64.wrap (k * 4096) = k * 4096 := by rw [IntKind.wrap_u64]; omega
      have w3 : IntKind.u64.wrap (k * 4096 + (j : Int)) = k * 4096 + (j : Int) := by rw [IntKind.wrap_u64]; omega
      have lk := M0.out.look (k := k * 4096 + (j : Int)) (wfU2 (by omega) (by omega))
      generalize clrN M k j = b at NX ⊢
      generalize M (k * 4096 + (j : Int)) = v at lk NX
      cases b with
      | false =>
        go_wp2_with fail
        go_round
        case rel => exact ⟨j + 1, by omega, by go_num, by rw [NX.out]; rfl⟩
        case measure => simp [intOf]; omega
      | true =>
        by_cases e : v = 0
        · subst e
          go_wp2_with fail
          go_round
          case rel => exact ⟨j + 1, by omega, by go_num, by rw [NX.out]; rfl⟩
          case measure => simp [intOf]; omega
        · have e1 : (v == 0) = false := by simp [e]
          go_wp2_with fail
          go_round
          case rel => exact ⟨j + 1, by omega, by go_num, by rw [NX.out]; simp [e1]⟩
          case measure => simp [intOf]; omega
    · obtain rfl : j = 4096 := by omega
      have HR2 : clrN M k 4096 = res := HR.out.symm
      rw [HR2]
      go_wp2_with fail
      go_ret
      exact ⟨rfl, B0.out⟩
set_option maxHeartbeats 4000000 in
theorem rcopy_any (f : Int) (sv : Value) (mb n : Nat) (M : Int → Int) (k q : Int) (k0 : 0 ≤ k) (k1 : k ≤ 1048576) (q0 : 0 ≤ q) (q1 : q ≤ 1048576) (w : World) (h : BMem w mb n M) (hn : n + 4096 < maxLen) (hsv : sv.oneCell' = true) :
    Calls Try.prog 17 #[.agg #[.int .i64 f, sv, .map (some mb)], .int .i64 k, .int .i64 q] w fun e w' => e = .returned (.tuple #[]) ∧ BMem w' mb (n + 4096) (mcopy M k q) ∧ w.grownBy w' (some mb) := by
  have hl := h.lt
  have M0 : Hid (BMem w mb n M) := h
  clear h
  go_enter Try.func17, Try.ntmps17
  go_wp2_with fail
  go_loopw [6, 7] (fun i _ W => ∃ (j : Nat), j ≤ 4096 ∧ i = .int .u64 j ∧ Hid (BMem W mb (n + j) (mcopyN M k q j)) ∧ Hid (w.grownBy W (some mb)) ∧ W.cell? ⟨w.heap.size, 2, none⟩ = some (.map (some mb)) ∧ w.heap.size < W.heap.size) (fun i _ _ => 4096 - (intOf i).toNat)
  case atStart => exact ⟨0, by omega, rfl, (by show BMem _ _ _ _; rw [mcopy_none]; exact M0.out.kept (World.grownBy_alloc _ _ none) (by simp)), World.grownBy_alloc _ _ _, by simp, by simp⟩
  case round =>
    obtain ⟨j, hj, rfl, hM, hG, c2, lw⟩ := hrel
    by_cases cj : j < 4096
    · have hd : decide ((j : Int) < 4096) = true := by simp; omega
      have w1 : IntKind.u64.wrap k = k := by rw [IntKind.wrap_u64]; omega
      have w2 : IntKind.u64.wrap (k * 4096) = k * 4096 := by rw [IntKind.wrap_u64]; omega
      have w3 : IntKind.u64.wrap (k * 4096 + (j : Int)) = k * 4096 + (j : Int) := by rw [IntKind.wrap_u64]; omega
      have v1 : IntKind.u64.wrap q = q := by rw [IntKind.wrap_u64]; omega
      have v2 : IntKind.u64.wrap (q * 4096) = q * 4096 := by rw [IntKind.wrap_u64]; omega
      have v3 : IntKind.u64.wrap (q * 4096 + (j : Int)) = q * 4096 + (j : Int) := by rw [IntKind.wrap_u64]; omega
      have lk := hM.out.look (k := q * 4096 + (j : Int)) (wfU2 (by omega) (by omega))
      have bt := hM.out.byte (k := q * 4096 + (j : Int)) (wfU2 (by omega) (by omega))
      rw [mcopy_look M k q j cj] at lk bt
      have NX : Hid (mcopyN M k q (j + 1) = bput (mcopyN M k q j) (k * 4096 + j) (M (q * 4096 + j))) := mcopy_next M k q j
      generalize M (q * 4096 + (j : Int)) = v at lk NX bt
      by_cases e : v = 0
      · subst e
        obtain ⟨w2', hdel, hM2, hg2⟩ := hM.out.drop (k := k * 4096 + (j : Int)) (wfU2 (by omega) (by omega))
        rw [← NX.out] at hM2
        have MN : Hid (BMem w2' mb (n + (j + 1)) (mcopyN M k q (j + 1))) := hM2.mono (by omega)
        have G2 : Hid (w.grownBy w2' (some mb)) := grown2 hG.out hg2
        have c3 : Hid (w2'.cell? ⟨w.heap.size, 2, none⟩ = some (.map (some mb))) := cell_up hg2 lw (by omega) c2
        have l3 : Hid (w.heap.size < w2'.heap.size) := Nat.lt_of_lt_of_le lw hg2.size
        clear hM2 hg2 hM hG bt
        go_wp2_with fail
        go_roundw
        case rel => exact ⟨j + 1, by omega, by go_num, MN, G2, c3.out, l3.out⟩
        case measure => simp [intOf]; omega
      · have e1 : (v == 0) = false := by simp [e]
        obtain ⟨w2', hst, hM2, hg2⟩ := hM.out.store (by omega) (k := k * 4096 + (j : Int)) (c := v) (wfU2 (by omega) (by omega)) (wfB2 bt.1 bt.2)
        rw [← NX.out] at hM2
        have MN : Hid (BMem w2' mb (n + (j + 1)) (mcopyN M k q (j + 1))) := hM2
        have G2 : Hid (w.grownBy w2' (some mb)) := grown2 hG.out hg2
        have c3 : Hid (w2'.cell? ⟨w.heap.size, 2, none⟩ = some (.map (some mb))) := cell_up hg2 lw (by omega) c2
        have l3 : Hid (w.heap.size < w2'.heap.size) := Nat.lt_of_lt_of_le lw hg2.size
        clear hM2 hg2 hM hG bt
        go_wp2_with fail
        go_roundw
        case rel => exact ⟨j + 1, by omega, by go_num, MN, G2, c3.out, l3.out⟩
        case measure => simp [intOf]; omega
    · obtain rfl : j = 4096 := by omega
      go_wp2_with fail
      go_end0
      exact ⟨rfl, hM.out, hG.out⟩
end Go.Proofs.Ytdfalincdgdlcaa
