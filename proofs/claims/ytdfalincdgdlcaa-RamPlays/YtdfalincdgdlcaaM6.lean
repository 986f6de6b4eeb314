/- The document's Error. -/
import Derived.Test.YtdfalincdgdlcaaM4
namespace Go.Proofs.Ytdfalincdgdlcaa
open Go.ChangeShapes Go.WideShapes Go.ChangeAt Go.RowKit Go.Maps
set_option linter.unusedSimpArgs false
set_option linter.unusedVariables false

def okB (F : Int) (hs : List (Int × Int)) (addr : Int) (i : Nat) : Prop := addr + (i : Int) < 18446744073709551616 ∧ hasH F hs ((addr + (i : Int)) / 4096) = true
theorem has_lt {F k : Int} {hs : List (Int × Int)} (h : hasH F hs k = true) : k < F := by
  unfold hasH hasF at h
  simp at h
  omega
theorem err_two {F addr : Int} {hs : List (Int × Int)} (m : Int) (hm : m = 1 ∨ m = 2 ∨ m = 4 ∨ m = 8) (a0 : 0 ≤ addr) (j : Nat) (hj : (j : Int) < m) (h : ¬ okB F hs addr j) : chkG (hasH F hs) addr m = 2 := by
  unfold chkG
  rw [if_pos (by omega), if_neg]
  rintro ⟨h1, h2, h3⟩
  refine h ⟨by omega, ?_⟩
  have e : (addr + (j : Int)) / 4096 = addr / 4096 ∨ (addr + (j : Int)) / 4096 = (addr + m - 1) / 4096 := by omega
  rcases e with e | e
  · rw [e]; exact h2
  · rw [e]; exact h3
theorem err_zero {F addr : Int} {hs : List (Int × Int)} (m : Int) (hm : m = 1 ∨ m = 2 ∨ m = 4 ∨ m = 8) (h : ∀ i : Nat, (i : Int) < m → okB F hs addr i) : chkG (hasH F hs) addr m = 0 := by
  unfold chkG
  have h0 := h 0 (by omega)
  have h1 := h (m - 1).toNat (by omega)
  unfold okB at h0 h1
  have e1 : addr + (((m - 1).toNat : Nat) : Int) = addr + m - 1 := by omega
  rw [e1] at h1
  simp only [Int.natCast_zero, Int.add_zero] at h0
  rw [if_pos (by omega), if_pos ⟨by omega, h0.2, h1.2⟩]
set_option maxHeartbeats 4000000 in
theorem rerr_1 (F addr : Int) (hb cap mbx : Nat) (hs : List (Int × Int)) (w : World) (hh : HolesAt w hb hs) (hhb : hb < w.heap.size) (l9 : hs.length ≤ 70) (f0 : 0 ≤ F) (f1 : F ≤ 1048576) (a0 : 0 ≤ addr) (a1 : addr < 18446744073709551616) :
    Calls Try.prog 8 #[.agg #[.int .i64 F, .slice (some ⟨hb, 0, none⟩) hs.length cap, .map (some mbx)], .int .u64 addr, .int .i64 1] w fun e w' => e = .returned (.int .i64 (chkG (hasH F hs) addr 1)) ∧ Below w.heap.size w w' := by
  obtain ⟨res, hres⟩ : ∃ res, res = chkG (hasH F hs) addr 1 := ⟨_, rfl⟩
  have HR : Hid (res = chkG (hasH F hs) addr 1) := hres
  rw [← hres]
  clear hres
  have HC : Hid (∀ (k : Int) (W : World), Below w.heap.size w W → Calls Try.prog 14 #[.agg #[.int .i64 F, .slice (some ⟨hb, 0, none⟩) hs.length cap, .map (some mbx)], .int .i64 k] W fun e w' => e = .returned (.bool (hasH F hs k)) ∧ Below W.heap.size W w') := fun k W hb' => rhas_map F k hb cap mbx hs W (hh.kept (hb'.block hb hhb)) (Nat.lt_of_lt_of_le hhb hb'.size) l9
  obtain ⟨nh, hnh⟩ : ∃ nh, nh = hs.length := ⟨_, rfl⟩
  rw [← hnh] at HC ⊢
  clear hh hhb hnh l9
  have B0 : Hid (Below w.heap.size w (w.alloc (.cells #[.int .i64 F, .slice (some ⟨hb, 0, none⟩) nh cap, .map (some mbx)] 33))) := Go.Joins.below_alloc1 _ _
  have X0 : Hid ((w.alloc (.cells #[.int .i64 F, .slice (some ⟨hb, 0, none⟩) nh cap, .map (some mbx)] 33)).heap[w.heap.size]? = some (.cells #[.int .i64 F, .slice (some ⟨hb, 0, none⟩) nh cap, .map (some mbx)] 33 (0, 0))) := own_new w _
  have F1 : IntKind.u64.wrap F = F := by rw [IntKind.wrap_u64]; omega
  go_enter Try.func8, Try.ntmps8
  go_wp2_with fail
  go_loopw [7, 8] (fun i _ W => ∃ (j : Nat), j ≤ 1 ∧ i = .int .i64 j ∧ Hid (∀ i : Nat, i < j → okB F hs addr i) ∧ Hid (Below w.heap.size w W) ∧ Hid (W.heap[w.heap.size]? = some (.cells #[.int .i64 F, .slice (some ⟨hb, 0, none⟩) nh cap, .map (some mbx)] 33 (0, 0)))) (fun i _ _ => 1 - (intOf i).toNat)
  case atStart => exact ⟨0, by omega, rfl, (fun i hi => absurd hi (by omega)), B0, X0⟩
  case round =>
    obtain ⟨j, hj, rfl, HA, hB, hX⟩ := hrel
    have x0 : wr.cell? ⟨w.heap.size, 0, none⟩ = some (.int .i64 F) := Go.Joins.cell_of_block hX.out 0
    have x1 : wr.cell? ⟨w.heap.size, 1, none⟩ = some (.slice (some ⟨hb, 0, none⟩) nh cap) := Go.Joins.cell_of_block hX.out 1
    have x2 : wr.cell? ⟨w.heap.size, 2, none⟩ = some (.map (some mbx)) := Go.Joins.cell_of_block hX.out 2
    by_cases cj : j < 1
    · have hd : decide ((j : Int) < 1) = true := by simp; omega
      have w1 : IntKind.u64.wrap (j : Int) = (j : Int) := by rw [IntKind.wrap_u64]; omega
      by_cases ov : addr + (j : Int) < 18446744073709551616
      rotate_left
      · obtain ⟨at_, hat⟩ : ∃ at_, at_ = addr + (j : Int) - 18446744073709551616 := ⟨_, rfl⟩
        have w2 : IntKind.u64.wrap (addr + (j : Int)) = at_ := by rw [IntKind.wrap_u64, hat]; omega
        have d1 : decide (at_ < addr) = true := by simp; omega
        clear hat
        have CG : Hid (res = 2) := HR.out.trans (err_two 1 (by omega) a0 j (by omega) (fun h => ov h.1))
        obtain rfl : res = 2 := CG.out
        clear CG HR HA
        go_wp2_with fail
        go_ret
        exact ⟨rfl, hB.out⟩
      obtain ⟨at_, hat⟩ : ∃ at_, at_ = addr + (j : Int) := ⟨_, rfl⟩
      have w2 : IntKind.u64.wrap (addr + (j : Int)) = at_ := by rw [IntKind.wrap_u64, hat]; omega
      have HT : Hid (at_ = addr + (j : Int)) := hat
      have d1 : decide (at_ < addr) = false := by simp; omega
      have d2 : ¬ at_ < addr := by omega
      obtain ⟨fr, hfr⟩ : ∃ fr, fr = at_ / 4096 := ⟨_, rfl⟩
      have HF : Hid (fr = (addr + (j : Int)) / 4096) := by show _ = _; rw [hfr, hat]
      have q1 : at_ / 4096 = fr := hfr.symm
      have fr0 : 0 ≤ fr := by omega
      have fr1 : fr ≤ 4503599627370496 := by omega
      have w3 : IntKind.i64.wrap fr = fr := by rw [IntKind.wrap_i64]; omega
      clear hat hfr
      by_cases c1 : F ≤ fr
      · have e1 : decide (F ≤ fr) = true := by simp [c1]
        have CG : Hid (res = 2) := HR.out.trans (err_two 1 (by omega) a0 j (by omega) (fun h => by have := has_lt h.2; rw [← HF.out] at this; omega))
        obtain rfl : res = 2 := CG.out
        clear CG HR HA
        go_wp2_with fail
        go_ret
        exact ⟨rfl, hB.out⟩
      have e1 : decide (F ≤ fr) = false := by simp; omega
      cases e2 : hasH F hs fr with
      | false =>
        have HC2 := HC.out fr
        rw [e2] at HC2
        have HC3 : Hid _ := HC2
        have NO : Hid (¬ okB F hs addr j) := fun h => by have := h.2; rw [← HF.out, e2] at this; cases this
        clear HC2 e2
        go_wp2_with fail
        refine (HC3.out _ hB.out).mono ?_
        rintro e u ⟨rfl, hb'⟩
        have B2 : Hid (Below w.heap.size w u) := hB.out.trans (Go.Joins.below_le hb' hB.out.size)
        have CG : Hid (res = 2) := HR.out.trans (err_two 1 (by omega) a0 j (by omega) NO.out)
        obtain rfl : res = 2 := CG.out
        clear CG HR HA hb'
        go_wp2_with fail
        go_ret
        exact ⟨rfl, B2.out⟩
      | true =>
        have HC2 := HC.out fr
        rw [e2] at HC2
        have HC3 : Hid _ := HC2
        have OK : Hid (∀ i : Nat, i < j + 1 → okB F hs addr i) := fun i hi => by
          rcases Nat.lt_or_eq_of_le (Nat.le_of_lt_succ hi) with q | q
          · exact HA.out i q
          · subst q; exact ⟨ov, by rw [← HF.out]; exact e2⟩
        clear HC2 e2
        go_wp2_with fail
        refine (HC3.out _ hB.out).mono ?_
        rintro e u ⟨rfl, hb'⟩
        have B2 : Hid (Below w.heap.size w u) := hB.out.trans (Go.Joins.below_le hb' hB.out.size)
        have X2 : Hid (u.heap[w.heap.size]? = some (.cells #[.int .i64 F, .slice (some ⟨hb, 0, none⟩) nh cap, .map (some mbx)] 33 (0, 0))) := (hb'.block _ (Array.getElem?_eq_some_iff.1 hX.out).1).trans hX.out
        clear hb' HA
        go_wp2_with fail
        go_roundw
        case rel => exact ⟨j + 1, by omega, by go_num, OK, B2, X2⟩
        case measure => simp [intOf]; omega
    · obtain rfl : j = 1 := by omega
      have CG : Hid (res = 0) := HR.out.trans (err_zero 1 (by omega) (fun i hi => HA.out i (by omega)))
      obtain rfl : res = 0 := CG.out
      clear CG HR HA
      go_wp2_with fail
      go_ret
      exact ⟨rfl, hB.out⟩
set_option maxHeartbeats 4000000 in
theorem rerr_2 (F addr : Int) (hb cap mbx : Nat) (hs : List (Int × Int)) (w : World) (hh : HolesAt w hb hs) (hhb : hb < w.heap.size) (l9 : hs.length ≤ 70) (f0 : 0 ≤ F) (f1 : F ≤ 1048576) (a0 : 0 ≤ addr) (a1 : addr < 18446744073709551616) :
    Calls Try.prog 8 #[.agg #[.int .i64 F, .slice (some ⟨hb, 0, none⟩) hs.length cap, .map (some mbx)], .int .u64 addr, .int .i64 2] w fun e w' => e = .returned (.int .i64 (chkG (hasH F hs) addr 2)) ∧ Below w.heap.size w w' := by
  obtain ⟨res, hres⟩ : ∃ res, res = chkG (hasH F hs) addr 2 := ⟨_, rfl⟩
  have HR : Hid (res = chkG (hasH F hs) addr 2) := hres
  rw [← hres]
  clear hres
  have HC : Hid (∀ (k : Int) (W : World), Below w.heap.size w W → Calls Try.prog 14 #[.agg #[.int .i64 F, .slice (some ⟨hb, 0, none⟩) hs.length cap, .map (some mbx)], .int .i64 k] W fun e w' => e = .returned (.bool (hasH F hs k)) ∧ Below W.heap.size W w') := fun k W hb' => rhas_map F k hb cap mbx hs W (hh.kept (hb'.block hb hhb)) (Nat.lt_of_lt_of_le hhb hb'.size) l9
  obtain ⟨nh, hnh⟩ : ∃ nh, nh = hs.length := ⟨_, rfl⟩
  rw [← hnh] at HC ⊢
  clear hh hhb hnh l9
  have B0 : Hid (Below w.heap.size w (w.alloc (.cells #[.int .i64 F, .slice (some ⟨hb, 0, none⟩) nh cap, .map (some mbx)] 33))) := Go.Joins.below_alloc1 _ _
  have X0 : Hid ((w.alloc (.cells #[.int .i64 F, .slice (some ⟨hb, 0, none⟩) nh cap, .map (some mbx)] 33)).heap[w.heap.size]? = some (.cells #[.int .i64 F, .slice (some ⟨hb, 0, none⟩) nh cap, .map (some mbx)] 33 (0, 0))) := own_new w _
  have F1 : IntKind.u64.wrap F = F := by rw [IntKind.wrap_u64]; omega
  go_enter Try.func8, Try.ntmps8
  go_wp2_with fail
  go_loopw [7, 8] (fun i _ W => ∃ (j : Nat), j ≤ 2 ∧ i = .int .i64 j ∧ Hid (∀ i : Nat, i < j → okB F hs addr i) ∧ Hid (Below w.heap.size w W) ∧ Hid (W.heap[w.heap.size]? = some (.cells #[.int .i64 F, .slice (some ⟨hb, 0, none⟩) nh cap, .map (some mbx)] 33 (0, 0)))) (fun i _ _ => 2 - (intOf i).toNat)
  case atStart => exact ⟨0, by omega, rfl, (fun i hi => absurd hi (by omega)), B0, X0⟩
  case round =>
    obtain ⟨j, hj, rfl, HA, hB, hX⟩ := hrel
    have x0 : wr.cell? ⟨w.heap.size, 0, none⟩ = some (.int .i64 F) := Go.Joins.cell_of_block hX.out 0
    have x1 : wr.cell? ⟨w.heap.size, 1, none⟩ = some (.slice (some ⟨hb, 0, none⟩) nh cap) := Go.Joins.cell_of_block hX.out 1
    have x2 : wr.cell? ⟨w.heap.size, 2, none⟩ = some (.map (some mbx)) := Go.Joins.cell_of_block hX.out 2
    by_cases cj : j < 2
    · have hd : decide ((j : Int) < 2) = true := by simp; omega
      have w1 : IntKind.u64.wrap (j : Int) = (j : Int) := by rw [IntKind.wrap_u64]; omega
      by_cases ov : addr + (j : Int) < 18446744073709551616
      rotate_left
      · obtain ⟨at_, hat⟩ : ∃ at_, at_ = addr + (j : Int) - 18446744073709551616 := ⟨_, rfl⟩
        have w2 : IntKind.u64.wrap (addr + (j : Int)) = at_ := by rw [IntKind.wrap_u64, hat]; omega
        have d1 : decide (at_ < addr) = true := by simp; omega
        clear hat
        have CG : Hid (res = 2) := HR.out.trans (err_two 2 (by omega) a0 j (by omega) (fun h => ov h.1))
        obtain rfl : res = 2 := CG.out
        clear CG HR HA
        go_wp2_with fail
        go_ret
        exact ⟨rfl, hB.out⟩
      obtain ⟨at_, hat⟩ : ∃ at_, at_ = addr + (j : Int) := ⟨_, rfl⟩
      have w2 : IntKind.u64.wrap (addr + (j : Int)) = at_ := by rw [IntKind.wrap_u64, hat]; omega
      have HT : Hid (at_ = addr + (j : Int)) := hat
      have d1 : decide (at_ < addr) = false := by simp; omega
      have d2 : ¬ at_ < addr := by omega
      obtain ⟨fr, hfr⟩ : ∃ fr, fr = at_ / 4096 := ⟨_, rfl⟩
      have HF : Hid (fr = (addr + (j : Int)) / 4096) := by show _ = _; rw [hfr, hat]
      have q1 : at_ / 4096 = fr := hfr.symm
      have fr0 : 0 ≤ fr := by omega
      have fr1 : fr ≤ 4503599627370496 := by omega
      have w3 : IntKind.i64.wrap fr = fr := by rw [IntKind.wrap_i64]; omega
      clear hat hfr
      by_cases c1 : F ≤ fr
      · have e1 : decide (F ≤ fr) = true := by simp [c1]
        have CG : Hid (res = 2) := HR.out.trans (err_two 2 (by omega) a0 j (by omega) (fun h => by have := has_lt h.2; rw [← HF.out] at this; omega))
        obtain rfl : res = 2 := CG.out
        clear CG HR HA
        go_wp2_with fail
        go_ret
        exact ⟨rfl, hB.out⟩
      have e1 : decide (F ≤ fr) = false := by simp; omega
      cases e2 : hasH F hs fr with
      | false =>
        have HC2 := HC.out fr
        rw [e2] at HC2
        have HC3 : Hid _ := HC2
        have NO : Hid (¬ okB F hs addr j) := fun h => by have := h.2; rw [← HF.out, e2] at this; cases this
        clear HC2 e2
        go_wp2_with fail
        refine (HC3.out _ hB.out).mono ?_
        rintro e u ⟨rfl, hb'⟩
        have B2 : Hid (Below w.heap.size w u) := hB.out.trans (Go.Joins.below_le hb' hB.out.size)
        have CG : Hid (res = 2) := HR.out.trans (err_two 2 (by omega) a0 j (by omega) NO.out)
        obtain rfl : res = 2 := CG.out
        clear CG HR HA hb'
        go_wp2_with fail
        go_ret
        exact ⟨rfl, B2.out⟩
      | true =>
        have HC2 := HC.out fr
        rw [e2] at HC2
        have HC3 : Hid _ := HC2
        have OK : Hid (∀ i : Nat, i < j + 1 → okB F hs addr i) := fun i hi => by
          rcases Nat.lt_or_eq_of_le (Nat.le_of_lt_succ hi) with q | q
          · exact HA.out i q
          · subst q; exact ⟨ov, by rw [← HF.out]; exact e2⟩
        clear HC2 e2
        go_wp2_with fail
        refine (HC3.out _ hB.out).mono ?_
        rintro e u ⟨rfl, hb'⟩
        have B2 : Hid (Below w.heap.size w u) := hB.out.trans (Go.Joins.below_le hb' hB.out.size)
        have X2 : Hid (u.heap[w.heap.size]? = some (.cells #[.int .i64 F, .slice (some ⟨hb, 0, none⟩) nh cap, .map (some mbx)] 33 (0, 0))) := (hb'.block _ (Array.getElem?_eq_some_iff.1 hX.out).1).trans hX.out
        clear hb' HA
        go_wp2_with fail
        go_roundw
        case rel => exact ⟨j + 1, by omega, by go_num, OK, B2, X2⟩
        case measure => simp [intOf]; omega
    · obtain rfl : j = 2 := by omega
      have CG : Hid (res = 0) := HR.out.trans (err_zero 2 (by omega) (fun i hi => HA.out i (by omega)))
      obtain rfl : res = 0 := CG.out
      clear CG HR HA
      go_wp2_with fail
      go_ret
      exact ⟨rfl, hB.out⟩
set_option maxHeartbeats 4000000 in
theorem rerr_4 (F addr : Int) (hb cap mbx : Nat) (hs : List (Int × Int)) (w : World) (hh : HolesAt w hb hs) (hhb : hb < w.heap.size) (l9 : hs.length ≤ 70) (f0 : 0 ≤ F) (f1 : F ≤ 1048576) (a0 : 0 ≤ addr) (a1 : addr < 18446744073709551616) :
    Calls Try.prog 8 #[.agg #[.int .i64 F, .slice (some ⟨hb, 0, none⟩) hs.length cap, .map (some mbx)], .int .u64 addr, .int .i64 4] w fun e w' => e = .returned (.int .i64 (chkG (hasH F hs) addr 4)) ∧ Below w.heap.size w w' := by
  obtain ⟨res, hres⟩ : ∃ res, res = chkG (hasH F hs) addr 4 := ⟨_, rfl⟩
  have HR : Hid (res = chkG (hasH F hs) addr 4) := hres
  rw [← hres]
  clear hres
  have HC : Hid (∀ (k : Int) (W : World), Below w.heap.size w W → Calls Try.prog 14 #[.agg #[.int .i64 F, .slice (some ⟨hb, 0, none⟩) hs.length cap, .map (some mbx)], .int .i64 k] W fun e w' => e = .returned (.bool (hasH F hs k)) ∧ Below W.heap.size W w') := fun k W hb' => rhas_map F k hb cap mbx hs W (hh.kept (hb'.block hb hhb)) (Nat.lt_of_lt_of_le hhb hb'.size) l9
  obtain ⟨nh, hnh⟩ : ∃ nh, nh = hs.length := ⟨_, rfl⟩
  rw [← hnh] at HC ⊢
  clear hh hhb hnh l9
  have B0 : Hid (Below w.heap.size w (w.alloc (.cells #[.int .i64 F, .slice (some ⟨hb, 0, none⟩) nh cap, .map (some mbx)] 33))) := Go.Joins.below_alloc1 _ _
  have X0 : Hid ((w.alloc (.cells #[.int .i64 F, .slice (some ⟨hb, 0, none⟩) nh cap, .map (some mbx)] 33)).heap[w.heap.size]? = some (.cells #[.int .i64 F, .slice (some ⟨hb, 0, none⟩) nh cap, .map (some mbx)] 33 (0, 0))) := own_new w _
  have F1 : IntKind.u64.wrap F = F := by rw [IntKind.wrap_u64]; omega
  go_enter Try.func8, Try.ntmps8
  go_wp2_with fail
  go_loopw [7, 8] (fun i _ W => ∃ (j : Nat), j ≤ 4 ∧ i = .int .i64 j ∧ Hid (∀ i : Nat, i < j → okB F hs addr i) ∧ Hid (Below w.heap.size w W) ∧ Hid (W.heap[w.heap.size]? = some (.cells #[.int .i64 F, .slice (some ⟨hb, 0, none⟩) nh cap, .map (some mbx)] 33 (0, 0)))) (fun i _ _ => 4 - (intOf i).toNat)
  case atStart => exact ⟨0, by omega, rfl, (fun i hi => absurd hi (by omega)), B0, X0⟩
  case round =>
    obtain ⟨j, hj, rfl, HA, hB, hX⟩ := hrel
    have x0 : wr.cell? ⟨w.heap.size, 0, none⟩ = some (.int .i64 F) := Go.Joins.cell_of_block hX.out 0
    have x1 : wr.cell? ⟨w.heap.size, 1, none⟩ = some (.slice (some ⟨hb, 0, none⟩) nh cap) := Go.Joins.cell_of_block hX.out 1
    have x2 : wr.cell? ⟨w.heap.size, 2, none⟩ = some (.map (some mbx)) := Go.Joins.cell_of_block hX.out 2
    by_cases cj : j < 4
    · have hd : decide ((j : Int) < 4) = true := by simp; omega
      have w1 : IntKind.u64.wrap (j : Int) = (j : Int) := by rw [IntKind.wrap_u64]; omega
      by_cases ov : addr + (j : Int) < 18446744073709551616
      rotate_left
      · obtain ⟨at_, hat⟩ : ∃ at_, at_ = addr + (j : Int) - 18446744073709551616 := ⟨_, rfl⟩
        have w2 : IntKind.u64.wrap (addr + (j : Int)) = at_ := by rw [IntKind.wrap_u64, hat]; omega
        have d1 : decide (at_ < addr) = true := by simp; omega
        clear hat
        have CG : Hid (res = 2) := HR.out.trans (err_two 4 (by omega) a0 j (by omega) (fun h => ov h.1))
        obtain rfl : res = 2 := CG.out
        clear CG HR HA
        go_wp2_with fail
        go_ret
        exact ⟨rfl, hB.out⟩
      obtain ⟨at_, hat⟩ : ∃ at_, at_ = addr + (j : Int) := ⟨_, rfl⟩
      have w2 : IntKind.u64.wrap (addr + (j : Int)) = at_ := by rw [IntKind.wrap_u64, hat]; omega
      have HT : Hid (at_ = addr + (j : Int)) := hat
      have d1 : decide (at_ < addr) = false := by simp; omega
      have d2 : ¬ at_ < addr := by omega
      obtain ⟨fr, hfr⟩ : ∃ fr, fr = at_ / 4096 := ⟨_, rfl⟩
      have HF : Hid (fr = (addr + (j : Int)) / 4096) := by show _ = _; rw [hfr, hat]
      have q1 : at_ / 4096 = fr := hfr.symm
      have fr0 : 0 ≤ fr := by omega
      have fr1 : fr ≤ 4503599627370496 := by omega
      have w3 : IntKind.i64.wrap fr = fr := by rw [IntKind.wrap_i64]; omega
      clear hat hfr
      by_cases c1 : F ≤ fr
      · have e1 : decide (F ≤ fr) = true := by simp [c1]
        have CG : Hid (res = 2) := HR.out.trans (err_two 4 (by omega) a0 j (by omega) (fun h => by have := has_lt h.2; rw [← HF.out] at this; omega))
        obtain rfl : res = 2 := CG.out
        clear CG HR HA
        go_wp2_with fail
        go_ret
        exact ⟨rfl, hB.out⟩
      have e1 : decide (F ≤ fr) = false := by simp; omega
      cases e2 : hasH F hs fr with
      | false =>
        have HC2 := HC.out fr
        rw [e2] at HC2
        have HC3 : Hid _ := HC2
        have NO : Hid (¬ okB F hs addr j) := fun h => by have := h.2; rw [← HF.out, e2] at this; cases this
        clear HC2 e2
        go_wp2_with fail
        refine (HC3.out _ hB.out).mono ?_
        rintro e u ⟨rfl, hb'⟩
        have B2 : Hid (Below w.heap.size w u) := hB.out.trans (Go.Joins.below_le hb' hB.out.size)
        have CG : Hid (res = 2) := HR.out.trans (err_two 4 (by omega) a0 j (by omega) NO.out)
        obtain rfl : res = 2 := CG.out
        clear CG HR HA hb'
        go_wp2_with fail
        go_ret
        exact ⟨rfl, B2.out⟩
      | true =>
        have HC2 := HC.out fr
        rw [e2] at HC2
        have HC3 : Hid _ := HC2
        have OK : Hid (∀ i : Nat, i < j + 1 → okB F hs addr i) := fun i hi => by
          rcases Nat.lt_or_eq_of_le (Nat.le_of_lt_succ hi) with q | q
          · exact HA.out i q
          · subst q; exact ⟨ov, by rw [← HF.out]; exact e2⟩
        clear HC2 e2
        go_wp2_with fail
        refine (HC3.out _ hB.out).mono ?_
        rintro e u ⟨rfl, hb'⟩
        have B2 : Hid (Below w.heap.size w u) := hB.out.trans (Go.Joins.below_le hb' hB.out.size)
        have X2 : Hid (u.heap[w.heap.size]? = some (.cells #[.int .i64 F, .slice (some ⟨hb, 0, none⟩) nh cap, .map (some mbx)] 33 (0, 0))) := (hb'.block _ (Array.getElem?_eq_some_iff.1 hX.out).1).trans hX.out
        clear hb' HA
        go_wp2_with fail
        go_roundw
        case rel => exact ⟨j + 1, by omega, by go_num, OK, B2, X2⟩
        case measure => simp [intOf]; omega
    · obtain rfl : j = 4 := by omega
      have CG : Hid (res = 0) := HR.out.trans (err_zero 4 (by omega) (fun i hi => HA.out i (by omega)))
      obtain rfl : res = 0 := CG.out
      clear CG HR HA
      go_wp2_with fail
      go_ret
      exact ⟨rfl, hB.out⟩
set_option maxHeartbeats 4000000 in
theorem rerr_8 (F addr : Int) (hb cap mbx : Nat) (hs : List (Int × Int)) (w : World) (hh : HolesAt w hb hs) (hhb : hb < w.heap.size) (l9 : hs.length ≤ 70) (f0 : 0 ≤ F) (f1 : F ≤ 1048576) (a0 : 0 ≤ addr) (a1 : addr < 18446744073709551616) :
    Calls Try.prog 8 #[.agg #[.int .i64 F, .slice (some ⟨hb, 0, none⟩) hs.length cap, .map (some mbx)], .int .u64 addr, .int .i64 8] w fun e w' => e = .returned (.int .i64 (chkG (hasH F hs) addr 8)) ∧ Below w.heap.size w w' := by
  obtain ⟨res, hres⟩ : ∃ res, res = chkG (hasH F hs) addr 8 := ⟨_, rfl⟩
  have HR : Hid (res = chkG (hasH F hs) addr 8) := hres
  rw [← hres]
  clear hres
  have HC : Hid (∀ (k : Int) (W : World), Below w.heap.size w W → Calls Try.prog 14 #[.agg #[.int .i64 F, .slice (some ⟨hb, 0, none⟩) hs.length cap, .map (some mbx)], .int .i64 k] W fun e w' => e = .returned (.bool (hasH F hs k)) ∧ Below W.heap.size W w') := fun k W hb' => rhas_map F k hb cap mbx hs W (hh.kept (hb'.block hb hhb)) (Nat.lt_of_lt_of_le hhb hb'.size) l9
  obtain ⟨nh, hnh⟩ : ∃ nh, nh = hs.length := ⟨_, rfl⟩
  rw [← hnh] at HC ⊢
  clear hh hhb hnh l9
  have B0 : Hid (Below w.heap.size w (w.alloc (.cells #[.int .i64 F, .slice (some ⟨hb, 0, none⟩) nh cap, .map (some mbx)] 33))) := Go.Joins.below_alloc1 _ _
  have X0 : Hid ((w.alloc (.cells #[.int .i64 F, .slice (some ⟨hb, 0, none⟩) nh cap, .map (some mbx)] 33)).heap[w.heap.size]? = some (.cells #[.int .i64 F, .slice (some ⟨hb, 0, none⟩) nh cap, .map (some mbx)] 33 (0, 0))) := own_new w _
  have F1 : IntKind.u64.wrap F = F := by rw [IntKind.wrap_u64]; omega
  go_enter Try.func8, Try.ntmps8
  go_wp2_with fail
  go_loopw [7, 8] (fun i _ W => ∃ (j : Nat), j ≤ 8 ∧ i = .int .i64 j ∧ Hid (∀ i : Nat, i < j → okB F hs addr i) ∧ Hid (Below w.heap.size w W) ∧ Hid (W.heap[w.heap.size]? = some (.cells #[.int .i64 F, .slice (some ⟨hb, 0, none⟩) nh cap, .map (some mbx)] 33 (0, 0)))) (fun i _ _ => 8 - (intOf i).toNat)
  case atStart => exact ⟨0, by omega, rfl, (fun i hi => absurd hi (by omega)), B0, X0⟩
  case round =>
    obtain ⟨j, hj, rfl, HA, hB, hX⟩ := hrel
    have x0 : wr.cell? ⟨w.heap.size, 0, none⟩ = some (.int .i64 F) := Go.Joins.cell_of_block hX.out 0
    have x1 : wr.cell? ⟨w.heap.size, 1, none⟩ = some (.slice (some ⟨hb, 0, none⟩) nh cap) := Go.Joins.cell_of_block hX.out 1
    have x2 : wr.cell? ⟨w.heap.size, 2, none⟩ = some (.map (some mbx)) := Go.Joins.cell_of_block hX.out 2
    by_cases cj : j < 8
    · have hd : decide ((j : Int) < 8) = true := by simp; omega
      have w1 : IntKind.u64.wrap (j : Int) = (j : Int) := by rw [IntKind.wrap_u64]; omega
      by_cases ov : addr + (j : Int) < 18446744073709551616
      rotate_left
      · obtain ⟨at_, hat⟩ : ∃ at_, at_ = addr + (j : Int) - 18446744073709551616 := ⟨_, rfl⟩
        have w2 : IntKind.u64.wrap (addr + (j : Int)) = at_ := by rw [IntKind.wrap_u64, hat]; omega
        have d1 : decide (at_ < addr) = true := by simp; omega
        clear hat
        have CG : Hid (res = 2) := HR.out.trans (err_two 8 (by omega) a0 j (by omega) (fun h => ov h.1))
        obtain rfl : res = 2 := CG.out
        clear CG HR HA
        go_wp2_with fail
        go_ret
        exact ⟨rfl, hB.out⟩
      obtain ⟨at_, hat⟩ : ∃ at_, at_ = addr + (j : Int) := ⟨_, rfl⟩
      have w2 : IntKind.u64.wrap (addr + (j : Int)) = at_ := by rw [IntKind.wrap_u64, hat]; omega
      have HT : Hid (at_ = addr + (j : Int)) := hat
      have d1 : decide (at_ < addr) = false := by simp; omega
      have d2 : ¬ at_ < addr := by omega
      obtain ⟨fr, hfr⟩ : ∃ fr, fr = at_ / 4096 := ⟨_, rfl⟩
      have HF : Hid (fr = (addr + (j : Int)) / 4096) := by show _ = _; rw [hfr, hat]
      have q1 : at_ / 4096 = fr := hfr.symm
      have fr0 : 0 ≤ fr := by omega
      have fr1 : fr ≤ 4503599627370496 := by omega
      have w3 : IntKind.i64.wrap fr = fr := by rw [IntKind.wrap_i64]; omega
      clear hat hfr
      by_cases c1 : F ≤ fr
      · have e1 : decide (F ≤ fr) = true := by simp [c1]
        have CG : Hid (res = 2) := HR.out.trans (err_two 8 (by omega) a0 j (by omega) (fun h => by have := has_lt h.2; rw [← HF.out] at this; omega))
        obtain rfl : res = 2 := CG.out
        clear CG HR HA
        go_wp2_with fail
        go_ret
        exact ⟨rfl, hB.out⟩
      have e1 : decide (F ≤ fr) = false := by simp; omega
      cases e2 : hasH F hs fr with
      | false =>
        have HC2 := HC.out fr
        rw [e2] at HC2
        have HC3 : Hid _ := HC2
        have NO : Hid (¬ okB F hs addr j) := fun h => by have := h.2; rw [← HF.out, e2] at this; cases this
        clear HC2 e2
        go_wp2_with fail
        refine (HC3.out _ hB.out).mono ?_
        rintro e u ⟨rfl, hb'⟩
        have B2 : Hid (Below w.heap.size w u) := hB.out.trans (Go.Joins.below_le hb' hB.out.size)
        have CG : Hid (res = 2) := HR.out.trans (err_two 8 (by omega) a0 j (by omega) NO.out)
        obtain rfl : res = 2 := CG.out
        clear CG HR HA hb'
        go_wp2_with fail
        go_ret
        exact ⟨rfl, B2.out⟩
      | true =>
        have HC2 := HC.out fr
        rw [e2] at HC2
        have HC3 : Hid _ := HC2
        have OK : Hid (∀ i : Nat, i < j + 1 → okB F hs addr i) := fun i hi => by
          rcases Nat.lt_or_eq_of_le (Nat.le_of_lt_succ hi) with q | q
          · exact HA.out i q
          · subst q; exact ⟨ov, by rw [← HF.out]; exact e2⟩
        clear HC2 e2
        go_wp2_with fail
        refine (HC3.out _ hB.out).mono ?_
        rintro e u ⟨rfl, hb'⟩
        have B2 : Hid (Below w.heap.size w u) := hB.out.trans (Go.Joins.below_le hb' hB.out.size)
        have X2 : Hid (u.heap[w.heap.size]? = some (.cells #[.int .i64 F, .slice (some ⟨hb, 0, none⟩) nh cap, .map (some mbx)] 33 (0, 0))) := (hb'.block _ (Array.getElem?_eq_some_iff.1 hX.out).1).trans hX.out
        clear hb' HA
        go_wp2_with fail
        go_roundw
        case rel => exact ⟨j + 1, by omega, by go_num, OK, B2, X2⟩
        case measure => simp [intOf]; omega
    · obtain rfl : j = 8 := by omega
      have CG : Hid (res = 0) := HR.out.trans (err_zero 8 (by omega) (fun i hi => HA.out i (by omega)))
      obtain rfl : res = 0 := CG.out
      clear CG HR HA
      go_wp2_with fail
      go_ret
      exact ⟨rfl, hB.out⟩
set_option maxHeartbeats 4000000 in
theorem rerr_arg (F addr size : Int) (hb cap mbx nh : Nat) (w : World) (hs : ¬ (size = 1 ∨ size = 2 ∨ size = 4 ∨ size = 8)) :
    Calls Try.prog 8 #[.agg #[.int .i64 F, .slice (some ⟨hb, 0, none⟩) nh cap, .map (some mbx)], .int .u64 addr, .int .i64 size] w fun e w' => e = .returned (.int .i64 1) ∧ Below w.heap.size w w' := by
  have n1 : (size != 1) = true := by simp; omega
  have n2 : (size != 2) = true := by simp; omega
  have n4 : (size != 4) = true := by simp; omega
  have n8 : (size != 8) = true := by simp; omega
  have B0 : Hid (Below w.heap.size w (w.alloc (.cells #[.int .i64 F, .slice (some ⟨hb, 0, none⟩) nh cap, .map (some mbx)] 33))) := Go.Joins.below_alloc1 _ _
  clear hs
  go_enter Try.func8, Try.ntmps8
  go_wp2_with fail
  go_ret
  exact ⟨rfl, B0.out⟩
theorem rerr_any (F addr size : Int) (hb cap mbx : Nat) (hs : List (Int × Int)) (w : World) (hh : HolesAt w hb hs) (hhb : hb < w.heap.size) (l9 : hs.length ≤ 70) (f0 : 0 ≤ F) (f1 : F ≤ 1048576) (a0 : 0 ≤ addr) (a1 : addr < 18446744073709551616) :
    Calls Try.prog 8 #[.agg #[.int .i64 F, .slice (some ⟨hb, 0, none⟩) hs.length cap, .map (some mbx)], .int .u64 addr, .int .i64 size] w fun e w' => e = .returned (.int .i64 (chkG (hasH F hs) addr size)) ∧ Below w.heap.size w w' := by
  by_cases c : size = 1 ∨ size = 2 ∨ size = 4 ∨ size = 8
  · rcases c with rfl | rfl | rfl | rfl
    · exact rerr_1 F addr hb cap mbx hs w hh hhb l9 f0 f1 a0 a1
    · exact rerr_2 F addr hb cap mbx hs w hh hhb l9 f0 f1 a0 a1
    · exact rerr_4 F addr hb cap mbx hs w hh hhb l9 f0 f1 a0 a1
    · exact rerr_8 F addr hb cap mbx hs w hh hhb l9 f0 f1 a0 a1
  · rw [show chkG (hasH F hs) addr size = 1 from by unfold chkG; rw [if_neg c]]
    exact rerr_arg F addr size hb cap mbx hs.length w c
end Go.Proofs.Ytdfalincdgdlcaa
