/- Regions: the document's looks. -/
import Derived.Test.YtngaodfajihmmaaG14
import Derived.Deep.DeepCutAuto
import Derived.Deep.QuietTactic
import Derived.BigQuiet
namespace Go.Proofs.Ytngaodfajihmmaa
open Go.ChangeShapes Go.WideShapes Go.ChangeAt Go.RowKit Go.Maps
set_option linter.unusedSimpArgs false
set_option linter.unusedVariables false

theorem rr_info : (Try.prog.info? 31).map (·.size) = some 6 := by kernel_rfl
theorem rr_info5 : (Try.prog.info? 31).map (fun i => (i.zero, i.size, i.bytes)) = some (some zrg, 6, 32) := by kernel_rfl
set_option maxHeartbeats 1000000 in
theorem one_any (r : Rg) (w : World) : Calls Try.prog 12 #[r.val] w fun e w' => e = .returned r.val ∧ Below w.heap.size w w' := by
  obtain ⟨r1, r2, r3, r4, r5, r6⟩ := r
  go_enter Try.func12, Try.ntmps12
  go_wp2_with fail
  go_returns
  exact ⟨rfl, Go.Joins.below_alloc2 _ _ _⟩
set_option maxHeartbeats 2000000 in
theorem findr_any (base : Nat) (p : Option Addr) (c : Nat) (B : List Rg) (hB : B.length ≤ 100) (i : Int) (w : World) (h : IsL w base p B) :
    Calls Try.prog 20 #[.slice p B.length c, .int .i64 i] w fun e w' => e = .returned (.tuple #[(findR B i).1.val, .bool (findR B i).2]) ∧ Below w.heap.size w w' := by
  obtain ⟨z, hz⟩ : ∃ z, findR B i = z := ⟨_, rfl⟩
  rw [hz]
  have HZ : Hid (findR B i = z) := hz
  have HB : Hid (IsL w base p B) := h
  clear hz h
  go_enter Try.func20, Try.ntmps20
  go_wp2_with fail
  go_loopw [10] (fun x W => ∃ m : Nat, m ≤ B.length ∧ x = .int .i64 m ∧ Hid (IsL W base p B) ∧ Hid (Below w.heap.size w W) ∧ Hid (W.heap[w.heap.size]? = some (.cells #[.int .i64 0, .int .i64 0, .bool false, .bool false, .bool false, .int .i64 0] 31 (0, 0))) ∧ Hid (∀ k, k < m → ¬ (B.getD k Rg.zero).has i)) (fun x _ => B.length - (intOf x).toNat)
  case atStart => exact ⟨0, by omega, rfl, HB.out.below (Go.Joins.below_alloc1 _ _), Go.Joins.below_alloc1 _ _, own1 w _, fun k hk => absurd hk (Nat.not_lt_zero _)⟩
  case round =>
    obtain ⟨m, hm, rfl, hI, hb, hk, hno⟩ := hrel
    have lw : w.heap.size < wr.heap.size := (Array.getElem?_eq_some_iff.1 hk.out).1
    by_cases hlm : m < B.length
    · have hd : decide ((m : Int) < (B.length : Int)) = true := by simp; omega
      obtain ⟨g, rfl, g1, g2, gc⟩ := hI.out m hlm
      have HIT : Hid ((B.getD m Rg.zero).has i → z = (B.getD m Rg.zero, true)) := fun e => by rw [← HZ.out]; exact findR_hit i B m hlm hno.out e
      have NX : Hid (¬ (B.getD m Rg.zero).has i → ∀ k, k < m + 1 → ¬ (B.getD k Rg.zero).has i) := fun e k hk => by
        by_cases q : k = m
        · subst q; exact e
        · exact hno.out k (by omega)
      generalize B.getD m Rg.zero = bx at gc HIT NX
      obtain ⟨r1, r2, r3, r4, r5, r6⟩ := bx
      have y0 : wr.cell? ⟨g, m * 6, none⟩ = some (.int .i64 r1) := gc 0 _ rfl
      have y1 : wr.cell? ⟨g, m * 6 + 1, none⟩ = some (.int .i64 r2) := gc 1 _ rfl
      have y2 : wr.cell? ⟨g, m * 6 + 2, none⟩ = some (.bool r3) := gc 2 _ rfl
      have y3 : wr.cell? ⟨g, m * 6 + 3, none⟩ = some (.bool r4) := gc 3 _ rfl
      have y4 : wr.cell? ⟨g, m * 6 + 4, none⟩ = some (.bool r5) := gc 4 _ rfl
      have y5 : wr.cell? ⟨g, m * 6 + 5, none⟩ = some (.int .i64 r6) := gc 5 _ rfl
      clear gc
      by_cases c1 : r1 ≤ i
      · have e1 : decide (r1 ≤ i) = true := by simp [c1]
        by_cases c2 : i < r2
        · have e2 : decide (i < r2) = true := by simp [c2]
          have ez := HIT.out ⟨c1, c2⟩
          subst ez
          clear HIT NX HZ
          have BA : Hid (Below w.heap.size w (wr.alloc (.cells #[.int .i64 r1, .int .i64 r2, .bool r3, .bool r4, .bool r5, .int .i64 r6] 31))) := below_new hb.out _
          have TH : Hid ((wr.alloc (.cells #[.int .i64 r1, .int .i64 r2, .bool r3, .bool r4, .bool r5, .int .i64 r6] 31)).there w.heap.size 0 6) := there_block (((Go.Joins.below_alloc1 wr _).block _ lw).trans hk.out)
          go_wp2_with (refine store_pat (x := .tmp 4) w.heap.size 0 #[.int .i64 r1, .int .i64 r2, .bool r3, .bool r4, .bool r5, .int .i64 r6] ?hx ?hy ?ht ?hi ?h1 ?rest; (case hx => rfl); (case hy => rfl); (case ht => exact TH.out); (case hi => exact rr_info); (case h1 => simp [Value.oneCell']); generalize hW2 : World.setCells _ _ _ _ = W2; have HW2 : Hid ((wr.alloc (.cells #[.int .i64 r1, .int .i64 r2, .bool r3, .bool r4, .bool r5, .int .i64 r6] 31)).setCells w.heap.size 0 [.int .i64 r1, .int .i64 r2, .bool r3, .bool r4, .bool r5, .int .i64 r6] = W2) := hW2; clear hW2)
          have hr := run_loadVar_mid (P := Try.prog) ((wr.alloc (.cells #[.int .i64 r1, .int .i64 r2, .bool r3, .bool r4, .bool r5, .int .i64 r6] 31)).setCells w.heap.size 0 [.int .i64 r1, .int .i64 r2, .bool r3, .bool r4, .bool r5, .int .i64 r6]) w.heap.size 0 31 [.int .i64 r1, .int .i64 r2, .bool r3, .bool r4, .bool r5, .int .i64 r6] _ (World.rangeAt_setCells_same _ w.heap.size 0 [.int .i64 r1, .int .i64 r2, .bool r3, .bool r4, .bool r5, .int .i64 r6] TH.out) Try.underlying31 rfl rr_info
          have hb2 := below_setCells BA.out w.heap.size 0 [.int .i64 r1, .int .i64 r2, .bool r3, .bool r4, .bool r5, .int .i64 r6] (Nat.le_refl _)
          rw [HW2.out] at hr hb2
          refine bodyPost_ret (v := .tuple #[.agg #[.int .i64 r1, .int .i64 r2, .bool r3, .bool r4, .bool r5, .int .i64 r6], .bool true]) ?_ rfl ⟨rfl, hb2⟩
          exact results_pair Try.results20 _ _ _ _ _ _ rfl rfl hr
        · have e2 : decide (i < r2) = false := by simp [c2]
          have N2 : Hid (∀ k, k < m + 1 → ¬ (B.getD k Rg.zero).has i) := NX.out (by unfold Rg.has; simp only; omega)
          clear NX HIT
          go_wp2_with fail
          go_roundw
          case rel => exact ⟨m + 1, by omega, by go_num, hI.out.below (Go.Joins.below_alloc1 _ _), below_new hb.out _, ((Go.Joins.below_alloc1 wr _).block _ lw).trans hk.out, N2⟩
          case measure => simp [intOf]; omega
      · have e1 : decide (r1 ≤ i) = false := by simp [c1]
        have N2 : Hid (∀ k, k < m + 1 → ¬ (B.getD k Rg.zero).has i) := NX.out (by unfold Rg.has; simp only; omega)
        clear NX HIT
        go_wp2_with fail
        go_roundw
        case rel => exact ⟨m + 1, by omega, by go_num, hI.out.below (Go.Joins.below_alloc1 _ _), below_new hb.out _, ((Go.Joins.below_alloc1 wr _).block _ lw).trans hk.out, N2⟩
        case measure => simp [intOf]; omega
    · obtain rfl : m = B.length := by omega
      have ez : z = (Rg.zero, false) := by rw [← HZ.out]; exact findR_miss i B hno.out
      subst ez
      have TH : Hid (wr.there w.heap.size 0 6) := there_block hk.out
      clear HZ hno
      have r0 : wr.cell? ⟨w.heap.size, 0, none⟩ = some (.int .i64 0) := Go.Joins.cell_of_block hk.out 0
      have f0 : wr.frozen? ⟨w.heap.size, 0, none⟩ = false := Go.Joins.unfrozen_of_block hk.out 0
      have r1 : wr.cell? ⟨w.heap.size, 1, none⟩ = some (.int .i64 0) := Go.Joins.cell_of_block hk.out 1
      have f1 : wr.frozen? ⟨w.heap.size, 1, none⟩ = false := Go.Joins.unfrozen_of_block hk.out 1
      have r2 : wr.cell? ⟨w.heap.size, 2, none⟩ = some (.bool false) := Go.Joins.cell_of_block hk.out 2
      have f2 : wr.frozen? ⟨w.heap.size, 2, none⟩ = false := Go.Joins.unfrozen_of_block hk.out 2
      have r3 : wr.cell? ⟨w.heap.size, 3, none⟩ = some (.bool false) := Go.Joins.cell_of_block hk.out 3
      have f3 : wr.frozen? ⟨w.heap.size, 3, none⟩ = false := Go.Joins.unfrozen_of_block hk.out 3
      have r4 : wr.cell? ⟨w.heap.size, 4, none⟩ = some (.bool false) := Go.Joins.cell_of_block hk.out 4
      have f4 : wr.frozen? ⟨w.heap.size, 4, none⟩ = false := Go.Joins.unfrozen_of_block hk.out 4
      have r5 : wr.cell? ⟨w.heap.size, 5, none⟩ = some (.int .i64 0) := Go.Joins.cell_of_block hk.out 5
      have f5 : wr.frozen? ⟨w.heap.size, 5, none⟩ = false := Go.Joins.unfrozen_of_block hk.out 5
      go_wp2_with fail
      change bodyPost _ _ _ _ _ (wr.setCells w.heap.size 0 [.int .i64 0, .int .i64 0, .bool false, .bool false, .bool false, .int .i64 0])
      have hr := run_loadVar_mid (P := Try.prog) (wr.setCells w.heap.size 0 [.int .i64 0, .int .i64 0, .bool false, .bool false, .bool false, .int .i64 0]) w.heap.size 0 31 [.int .i64 0, .int .i64 0, .bool false, .bool false, .bool false, .int .i64 0] _ (World.rangeAt_setCells_same _ w.heap.size 0 [.int .i64 0, .int .i64 0, .bool false, .bool false, .bool false, .int .i64 0] TH.out) Try.underlying31 rfl rr_info
      refine bodyPost_ret (v := .tuple #[.agg #[.int .i64 0, .int .i64 0, .bool false, .bool false, .bool false, .int .i64 0], .bool false]) ?_ rfl ⟨rfl, below_setCells hb.out _ _ _ (Nat.le_refl _)⟩
      exact results_pair Try.results20 _ _ _ _ _ _ rfl rfl hr
set_option maxHeartbeats 2000000 in
theorem countr_any (base : Nat) (p : Option Addr) (c : Nat) (L : List Rg) (hL : L.length ≤ 100) (hN : NumL L) (qf qt : Int) (w : World) (h : IsL w base p L) :
    Calls Try.prog 24 #[.slice p L.length c, .int .i64 qf, .int .i64 qt] w fun e w' => e = .returned (.int .i64 (cntR qf qt L)) ∧ Below w.heap.size w w' := by
  obtain ⟨z, hz⟩ : ∃ z, cntR qf qt L = z := ⟨_, rfl⟩
  rw [hz]
  have HZ : Hid (cntR qf qt L = z) := hz
  have HI : Hid (IsL w base p L) := h
  have HN : Hid (NumL L) := hN
  clear hz h hN
  go_enter Try.func24, Try.ntmps24
  go_wp2_with fail
  go_loopw [7, 14] (fun y x W => ∃ (m : Nat) (s : Int), m ≤ L.length ∧ y = .int .i64 s ∧ x = .int .i64 m ∧ 0 ≤ s ∧ s ≤ (m : Int) * 4398046511104 ∧ Hid (IsL W base p L) ∧ Hid (Below w.heap.size w W) ∧ Hid (s = cntR qf qt (L.take m))) (fun _ x _ => L.length - (intOf x).toNat)
  case atStart => exact ⟨0, 0, by omega, rfl, rfl, by omega, by omega, HI, Below.refl _ _, rfl⟩
  case round =>
    obtain ⟨m, s, hm, rfl, rfl, s0, s1, hI, hb, hS⟩ := hrel
    by_cases hlm : m < L.length
    · have hd : decide ((m : Int) < (L.length : Int)) = true := by simp; omega
      obtain ⟨g, rfl, g1, g2, gc⟩ := hI.out m hlm
      have NX : Hid (cntR qf qt (L.take (m + 1)) = s + (L.getD m Rg.zero).len qf qt) := by
        show _ = _
        rw [cntR_take qf qt L m hlm, ← hS.out]
      have nm := HN.out m hlm
      generalize L.getD m Rg.zero = rr at gc NX nm
      obtain ⟨r1, r2, r3, r4, r5, r6⟩ := rr
      simp only at nm
      obtain ⟨n1, n2⟩ := nm
      unfold Rg.len at NX
      simp only at NX
      have y0 : wr.cell? ⟨g, m * 6, none⟩ = some (.int .i64 r1) := gc 0 _ rfl
      have y1 : wr.cell? ⟨g, m * 6 + 1, none⟩ = some (.int .i64 r2) := gc 1 _ rfl
      have y2 : wr.cell? ⟨g, m * 6 + 2, none⟩ = some (.bool r3) := gc 2 _ rfl
      have y3 : wr.cell? ⟨g, m * 6 + 3, none⟩ = some (.bool r4) := gc 3 _ rfl
      have y4 : wr.cell? ⟨g, m * 6 + 4, none⟩ = some (.bool r5) := gc 4 _ rfl
      have y5 : wr.cell? ⟨g, m * 6 + 5, none⟩ = some (.int .i64 r6) := gc 5 _ rfl
      clear gc
      have I1 : Hid (IsL (wr.alloc (.cells #[.int .i64 r1, .int .i64 r2, .bool r3, .bool r4, .bool r5, .int .i64 r6] 31)) base (some ⟨g, 0, none⟩) L) := hI.out.below (Go.Joins.below_alloc1 _ _)
      have B1 : Hid (Below w.heap.size w (wr.alloc (.cells #[.int .i64 r1, .int .i64 r2, .bool r3, .bool r4, .bool r5, .int .i64 r6] 31))) := below_new hb.out _
      clear hI hb
      go_upto_region 5 with fail
      go_cut [10, 11] (fun a b wx => a = .int .i64 (max r1 qf) ∧ b = .int .i64 (min r2 qt) ∧ ∃ q, wx = (wr.alloc (.cells #[.int .i64 r1, .int .i64 r2, .bool r3, .bool r4, .bool r5, .int .i64 r6] 31)).drewN q)
      case first =>
        clear NX
        rcases max_cases r1 qf with ⟨c1, e1⟩ | ⟨c1, e1⟩
        · have d1 : decide (r1 < qf) = true := by simp [c1]
          have M1 : Hid (max r1 qf = qf) := e1
          clear e1
          rcases min_cases r2 qt with ⟨c2, e2⟩ | ⟨c2, e2⟩
          · have d2 : decide (qt < r2) = true := by simp [c2]
            have M2 : Hid (min r2 qt = qt) := e2
            clear e2
            go_quiet (fail)
            go_wp2_with fail
            go_meet
            exact ⟨by rw [M1.out], by rw [M2.out], _, rfl⟩
          · have d2 : decide (qt < r2) = false := by simp; omega
            have M2 : Hid (min r2 qt = r2) := e2
            clear e2
            go_quiet (fail)
            go_wp2_with fail
            go_meet
            exact ⟨by rw [M1.out], by rw [M2.out], _, rfl⟩
        · have d1 : decide (r1 < qf) = false := by simp; omega
          have M1 : Hid (max r1 qf = r1) := e1
          clear e1
          rcases min_cases r2 qt with ⟨c2, e2⟩ | ⟨c2, e2⟩
          · have d2 : decide (qt < r2) = true := by simp [c2]
            have M2 : Hid (min r2 qt = qt) := e2
            clear e2
            go_quiet (fail)
            go_wp2_with fail
            go_meet
            exact ⟨by rw [M1.out], by rw [M2.out], _, rfl⟩
          · have d2 : decide (qt < r2) = false := by simp; omega
            have M2 : Hid (min r2 qt = r2) := e2
            clear e2
            go_quiet (fail)
            go_wp2_with fail
            go_meet
            exact ⟨by rw [M1.out], by rw [M2.out], _, rfl⟩
      case rest =>
        obtain ⟨rfl, rfl, q, ew⟩ := hcut
        have I2 : Hid (IsL wc base (some ⟨g, 0, none⟩) L) := by show IsL _ _ _ _; rw [ew]; exact I1.out
        have B2 : Hid (Below w.heap.size w wc) := by show Below _ _ _; rw [ew]; exact ⟨B1.out.os, B1.out.tape, B1.out.output, B1.out.size, B1.out.block⟩
        clear ew I1 B1 y0 y1 y2 y3 y4 y5
        obtain ⟨mf, hmf⟩ : ∃ x, max r1 qf = x := ⟨_, rfl⟩
        obtain ⟨mt, hmt⟩ : ∃ x, min r2 qt = x := ⟨_, rfl⟩
        rw [hmf, hmt] at NX ⊢
        have k1 : r1 ≤ mf := by omega
        have k2 : mt ≤ r2 := by omega
        clear hmf hmt
        by_cases cc : mf < mt
        · have ed : decide (mf < mt) = true := by simp [cc]
          have N2 : Hid (s + (mt - mf) = cntR qf qt (L.take (m + 1))) := by
            have := NX.out
            rw [if_pos cc] at this; exact this.symm
          clear NX
          go_wp2_with fail
          go_roundw
          case rel => exact ⟨m + 1, s + (mt - mf), by omega, by go_num, by go_num, by omega, by omega, I2, B2, N2⟩
          case measure => simp [intOf]; omega
        · have ed : decide (mf < mt) = false := by simp [cc]
          have N2 : Hid (s = cntR qf qt (L.take (m + 1))) := by
            have := NX.out
            rw [if_neg cc, Int.add_zero] at this; exact this.symm
          clear NX
          go_wp2_with fail
          go_roundw
          case rel => exact ⟨m + 1, s, by omega, rfl, by go_num, by omega, by omega, I2, B2, N2⟩
          case measure => simp [intOf]; omega
    · obtain rfl : m = L.length := by omega
      have ez : s = z := by
        have h1 := hS.out
        rw [List.take_length, HZ.out] at h1; exact h1
      subst ez
      go_wp2_with fail
      go_ret
      exact ⟨rfl, hb.out⟩
end Go.Proofs.Ytngaodfajihmmaa
