/- The document's Walk: walks that come to a last entry; whatever the memory and the access; a run of walks. -/
import Derived.Test.YtaebihgegiddnaaDoorVC
import Derived.Deep.DeepCutAuto
import Derived.Deep.CutBlock
import Derived.Test.YtaebihgegiddnaaDoorVE
import Derived.Test.YtaebihgegiddnaaDoorVA
namespace Go.Proofs.YtaebihgegiddnaaDoor
open Go.ChangeShapes Go.WideShapes Go.ChangeAt Go.RowKit Go.Maps
set_option linter.unusedSimpArgs false
set_option linter.unusedVariables false
set_option maxRecDepth 8000

theorem end_ne (M : Int → Int) (addr cd : Int) (x u f : Bool) (acc : List (Int × Int)) (X : Int) (lg : Bool) (a c e : Int) (h : e = 2 ∨ (e = 9 ∧ c ≠ cd + 1)) : endL M addr cd x u f acc X lg ≠ WR.no M a c e := by
  intro q
  unfold endL at q
  split at q
  · have h1 := congrArg WR.er q
    simp only [WR.no] at h1
    omega
  · have h1 := congrArg WR.er q
    have h2 := congrArg WR.fc q
    simp only [WR.no] at h1 h2
    omega
set_option maxHeartbeats 60000000 in
theorem rwalk_end (root addr : Int) (a0 : 0 ≤ addr) (a1 : addr < 18446744073709551616) (x u f : Bool) (g cap mb m : Nat) (M : Int → Int) (hM : ∀ t, 0 ≤ M t ∧ M t < 256) (w : World) (hh : HolesAt w g [(7, 8)]) (hg : g < w.heap.size) (hm : BMem w mb m M) (hm32 : m + 40 < maxLen) (c1 : ext addr = addr) (c2 : hasH 8 [(7, 8)] root = true) (he : ∃ acc X lg, walkW (hasH 8 [(7, 8)]) M root addr x u f = endL M addr (codeV x u f) x u f acc X lg) :
    Calls Tryd.prog 8 #[.agg #[.int .i64 8, .slice (some ⟨g, 0, none⟩) 1 cap, .map (some mb)], .int .i64 root, .int .u64 addr, .agg #[.bool x, .bool u, .bool f]] w fun e w' =>
      e = .returned (walkW (hasH 8 [(7, 8)]) M root addr x u f).ans ∧ (∃ m', m' ≤ m + 32 ∧ BMem w' mb m' (walkW (hasH 8 [(7, 8)]) M root addr x u f).M) ∧ w.grownBy w' (some mb) := by
  have HC := rhas_up cap mb hh hg
  have CN := rcanonical_any addr a0 a1
  have CN' : Hid _ := CN
  clear CN
  have e1 : (ext addr == addr) = true := by simp [c1]
  rw [e1] at CN'
  have r0 : 0 ≤ root ∧ root < 1048576 := has8_bd root c2
  have GL : Hid (walkW (hasH 8 [(7, 8)]) M root addr x u f = restW (hasH 8 [(7, 8)]) M addr (codeV x u f) x u f 4 root []) := rest_is _ M root addr x u f c1 c2
  have HR : Hid (hasH 8 [(7, 8)] root = true) := c2
  have CD := rcode_any x u f
  have CD' : Hid _ := CD
  clear CD
  have PT : Hid (∀ (k : Nat) (W : World), k ≤ 48 → Calls Tryd.prog 28 #[.int .u64 addr, .int .i64 (k : Int), .int .i64 9] W fun e w' => e = .returned (.int .i64 (addr / 2 ^ k % 512)) ∧ w' = W) := fun k W hk => part_any addr a0 a1 k 9 (by omega) (by omega) W
  have LD : Hid (∀ (T P : Int) (W : World), 0 ≤ T → T < 1048576 → 0 ≤ P → P < 512 → Below w.heap.size w W → Calls Tryd.prog 29 #[.agg #[.int .i64 8, .slice (some ⟨g, 0, none⟩) 1 cap, .map (some mb)], .int .u64 (T * 4096 + P * 8), .int .i64 8] W fun e w' => e = .returned (.int .u64 (entV M T P)) ∧ Below W.heap.size W w') := fun T P W t0 t1 p0 p1 hb => rload_any 8 _ mb m M _ 8 (by omega) (by omega) (by omega) W (hm.kept (below_g0 hb) (by simp)) rfl hM
  have EB : Hid (∀ T P : Int, 0 ≤ entV M T P ∧ entV M T P < 18446744073709551616) := fun T P => ent_bd hM T P
  have UN : Hid (∀ (X : Int) (W : World), 0 ≤ X → X < 18446744073709551616 → Calls Tryd.prog 30 #[.int .u64 X] W fun e w' => e = .returned (unp X) ∧ Below W.heap.size W w') := fun X W h0 h1 => runpack_any X h0 h1 W
  have RS : Hid (∀ (X l : Int) (W : World), 0 ≤ X → X < 18446744073709551616 → Calls Tryd.prog 32 #[.int .u64 X, .int .i64 l] W fun e w' => e = .returned (.bool (resV X l)) ∧ w' = W) := fun X l W h0 h1 => rreserved_any X l h0 h1 W
  have HM : Hid (∀ t, 0 ≤ M t ∧ M t < 256) := hM
  have BM : Hid (BMem w mb m M) := hm
  have NO : Hid (∀ (a c e : Int), walkW (hasH 8 [(7, 8)]) M root addr x u f = WR.no M a c e → ∀ W : World, Below w.heap.size w W → (∃ m', m' ≤ m + 32 ∧ BMem W mb m' (walkW (hasH 8 [(7, 8)]) M root addr x u f).M) ∧ w.grownBy W (some mb)) := fun a c e h W hb => ⟨⟨m, by omega, by rw [h]; exact hm.kept (below_g0 hb) (by simp)⟩, hb.os, hb.tape, hb.output, hb.size, fun j hj _ => hb.block j hj⟩
  have HE : Hid (∃ acc X lg, walkW (hasH 8 [(7, 8)]) M root addr x u f = endL M addr (codeV x u f) x u f acc X lg) := he
  clear he
  clear hh e1 c1 c2 hM hm
  have R0 : Hid (Blk (((w.alloc (.cells #[.int .i64 8, .slice (some ⟨g, 0, none⟩) 1 cap, .map (some mb)] 28)).alloc (.cells #[.bool x, .bool u, .bool f] 34)).alloc (.cells #[.int .i64 0, .bool false, .bool false, .bool false, .bool false, .bool false, .bool false] 47)) w.heap.size [.int .i64 8, .slice (some ⟨g, 0, none⟩) 1 cap, .map (some mb)] 28) := (Blk.made w _ _).below (Go.Joins.below_alloc2 _ _ _)
  have A0 : Hid (Blk (((w.alloc (.cells #[.int .i64 8, .slice (some ⟨g, 0, none⟩) 1 cap, .map (some mb)] 28)).alloc (.cells #[.bool x, .bool u, .bool f] 34)).alloc (.cells #[.int .i64 0, .bool false, .bool false, .bool false, .bool false, .bool false, .bool false] 47)) (w.heap.size + 1) [.bool x, .bool u, .bool f] 34) := by
    have := Blk.made (w.alloc (.cells #[.int .i64 8, .slice (some ⟨g, 0, none⟩) 1 cap, .map (some mb)] 28)) [.bool x, .bool u, .bool f] 34
    rw [World.size_alloc] at this; exact this.below (Go.Joins.below_alloc1 _ _)
  have F0 : Hid (Blk (((w.alloc (.cells #[.int .i64 8, .slice (some ⟨g, 0, none⟩) 1 cap, .map (some mb)] 28)).alloc (.cells #[.bool x, .bool u, .bool f] 34)).alloc (.cells #[.int .i64 0, .bool false, .bool false, .bool false, .bool false, .bool false, .bool false] 47)) (w.heap.size + 1 + 1) [.int .i64 0, .bool false, .bool false, .bool false, .bool false, .bool false, .bool false] 47) := by
    have := Blk.made ((w.alloc (.cells #[.int .i64 8, .slice (some ⟨g, 0, none⟩) 1 cap, .map (some mb)] 28)).alloc (.cells #[.bool x, .bool u, .bool f] 34)) [.int .i64 0, .bool false, .bool false, .bool false, .bool false, .bool false, .bool false] 47
    rw [World.size_alloc, World.size_alloc] at this; exact this
  go_enter Tryd.func8, Tryd.ntmps8
  go_wp2_with fail
  refine (CN'.out _).mono ?_
  rintro e _ ⟨rfl, rfl⟩
  go_wp2_with fail
  refine (HC.out root _ (Go.Joins.below_alloc3 _ _ _ _)).mono ?_
  rintro e u1 ⟨rfl, hb⟩
  rw [HR.out]
  have B1 : Hid (Below w.heap.size w u1) := below_then (Go.Joins.below_alloc3 _ _ _ _) hb
  have R1 : Hid (Blk u1 w.heap.size [.int .i64 8, .slice (some ⟨g, 0, none⟩) 1 cap, .map (some mb)] 28) := R0.out.below hb
  have A1 : Hid (Blk u1 (w.heap.size + 1) [.bool x, .bool u, .bool f] 34) := A0.out.below hb
  have F1 : Hid (Blk u1 (w.heap.size + 1 + 1) [.int .i64 0, .bool false, .bool false, .bool false, .bool false, .bool false, .bool false] 47) := F0.out.below hb
  clear hb R0 A0 F0 CN'
  have lf : Hid (w.heap.size + 1 + 1 < u1.heap.size) := blk_lt F1.out
  go_upto_block 0 with fail
  obtain ⟨fb, hfb⟩ : ∃ fb, fb = u1.heap.size := ⟨_, rfl⟩
  have LF : Hid (w.heap.size + 1 + 1 < fb) := by rw [hfb]; exact lf
  have L0 : Hid (Lw w ((u1.alloc (.cells #[.int .i64 0, .bool true, .bool true, .bool true, .bool false, .bool false, .bool false] 47)).alloc (.cells #[] 32)) g cap mb x u f fb M [] (.slice (some ⟨u1.heap.size + 1, 0, none⟩) 0 0)) := by
    have hb := Go.Joins.below_alloc2 u1 (.cells #[.int .i64 0, .bool true, .bool true, .bool true, .bool false, .bool false, .bool false] 47) (.cells #[] 32)
    refine ⟨below_then B1.out hb, R1.out.below hb, A1.out.below hb, F1.out.below hb, ?_, ?_, LF.out⟩
    · rw [hfb]
      exact (Blk.made u1 [.int .i64 0, .bool true, .bool true, .bool true, .bool false, .bool false, .bool false] 47).below (Go.Joins.below_alloc1 _ _)
    · have := OwnU.made (u1.alloc (.cells #[.int .i64 0, .bool true, .bool true, .bool true, .bool false, .bool false, .bool false] 47)) (base := fb + 1) (by rw [World.size_alloc, hfb]; exact Nat.le_refl _)
      rw [World.size_alloc] at this
      exact this
  rw [← hfb] at L0 ⊢
  clear B1 R1 A1 F1 lf hfb
  go_cut [12] (fun y wr => ∃ (acc : List (Int × Int)) (X : Int) (lg : Bool), Hid (Lx w wr g cap mb x u f fb [.int .i64 (X / 4096 % 1048576 + (if lg = true then pL addr 1 else 0)), .bool (allW M acc), .bool (allU M acc), .bool (allX M acc), .bool (bt (X / 256)), .bool lg, .bool (bt (X / 64) || x)] acc y) ∧ Hid (walkW (hasH 8 [(7, 8)]) M root addr x u f = endL M addr (codeV x u f) x u f acc X lg) ∧ (1 ≤ acc.length ∧ acc.length ≤ 4) ∧ Hid (∀ q ∈ acc, (0 ≤ q.1 ∧ q.1 < 1048576) ∧ (0 ≤ q.2 ∧ q.2 < 512)))
  case rest =>
    clear L0 GL HE
    obtain ⟨acc, X, lg, hw, hx, hn, hq⟩ := hcut
    obtain ⟨fr, hfr⟩ : ∃ z, X / 4096 % 1048576 + (if lg = true then pL addr 1 else 0) = z := ⟨_, rfl⟩
    obtain ⟨bw, hbw⟩ : ∃ z, allW M acc = z := ⟨_, rfl⟩
    obtain ⟨bu, hbu⟩ : ∃ z, allU M acc = z := ⟨_, rfl⟩
    obtain ⟨bx, hbx⟩ : ∃ z, allX M acc = z := ⟨_, rfl⟩
    obtain ⟨bG, hbG⟩ : ∃ z, bt (X / 256) = z := ⟨_, rfl⟩
    obtain ⟨bD, hbD⟩ : ∃ z, (bt (X / 64) || x) = z := ⟨_, rfl⟩
    have EE : Hid (walkW (hasH 8 [(7, 8)]) M root addr x u f = if mayV bw bu bx x u f = true then (⟨0, 0, 0, fr, bw, bu, bx, bG, lg, bD, marksN M acc x acc.length⟩ : WR) else WR.no M addr (codeV x u f + 1) 9) := by
      rw [← hfr, ← hbw, ← hbu, ← hbx, ← hbG, ← hbD]; exact hx.out
    rw [hfr, hbw, hbu, hbx, hbG, hbD] at hw
    have X0 : Hid (Lx w wc g cap mb x u f fb [.int .i64 fr, .bool bw, .bool bu, .bool bx, .bool bG, .bool lg, .bool bD] acc u12) := hw
    have MY := rmay_any bw bu bx x u f
    clear hfr hbw hbu hbx hbG hbD hw hx
    obtain ⟨my, hmy⟩ : ∃ z, mayV bw bu bx x u f = z := ⟨_, rfl⟩
    rw [hmy] at EE MY
    have MY' : Hid _ := MY
    clear hmy MY HC HR PT LD UN RS LF
    have hc0 : wc.cell? ⟨fb, 0, none⟩ = some (.int .i64 fr) := X0.out.h.cell 0
    have hc1 : wc.cell? ⟨fb, 1, none⟩ = some (.bool bw) := X0.out.h.cell 1
    have hc2 : wc.cell? ⟨fb, 2, none⟩ = some (.bool bu) := X0.out.h.cell 2
    have hc3 : wc.cell? ⟨fb, 3, none⟩ = some (.bool bx) := X0.out.h.cell 3
    have hc4 : wc.cell? ⟨fb, 4, none⟩ = some (.bool bG) := X0.out.h.cell 4
    have hc5 : wc.cell? ⟨fb, 5, none⟩ = some (.bool lg) := X0.out.h.cell 5
    have hc6 : wc.cell? ⟨fb, 6, none⟩ = some (.bool bD) := X0.out.h.cell 6
    have ac0 : wc.cell? ⟨w.heap.size + 1, 0, none⟩ = some (.bool x) := X0.out.a.cell 0
    have ac1 : wc.cell? ⟨w.heap.size + 1, 1, none⟩ = some (.bool u) := X0.out.a.cell 1
    have ac2 : wc.cell? ⟨w.heap.size + 1, 2, none⟩ = some (.bool f) := X0.out.a.cell 2
    go_wp2_with fail
    refine (MY'.out _).mono ?_
    rintro e u2 ⟨rfl, hb⟩
    have X2 : Hid (Lx w u2 g cap mb x u f fb [.int .i64 fr, .bool bw, .bool bu, .bool bx, .bool bG, .bool lg, .bool bD] acc u12) := X0.out.below hb
    clear hb X0 MY' hc0 hc1 hc2 hc3 hc4 hc5 hc6 ac0 ac1 ac2
    cases my
    · have EF : Hid (walkW (hasH 8 [(7, 8)]) M root addr x u f = WR.no M addr (codeV x u f + 1) 9) := EE.out.trans (if_neg (by simp))
      clear EE
      have ac0 : u2.cell? ⟨w.heap.size + 1, 0, none⟩ = some (.bool x) := X2.out.a.cell 0
      have ac1 : u2.cell? ⟨w.heap.size + 1, 1, none⟩ = some (.bool u) := X2.out.a.cell 1
      have ac2 : u2.cell? ⟨w.heap.size + 1, 2, none⟩ = some (.bool f) := X2.out.a.cell 2
      go_wp2_with fail
      refine (CD'.out _).mono ?_
      rintro e u5 ⟨rfl, hb⟩
      have X5 : Hid (Lx w u5 g cap mb x u f fb [.int .i64 fr, .bool bw, .bool bu, .bool bx, .bool bG, .bool lg, .bool bD] acc u12) := X2.out.below hb
      clear hb X2 ac0 ac1 ac2
      have cb := code_bd x u f
      have cb0 := cb.1
      have cb1 := cb.2
      have F9 : Hid (Blk u5 (w.heap.size + 1 + 1) [.int .i64 0, .bool false, .bool false, .bool false, .bool false, .bool false, .bool false] 47) := X5.out.z
      have B9 : Hid (Below w.heap.size w u5) := X5.out.bel
      have lf9 : w.heap.size + 1 + 1 < u5.heap.size := blk_lt F9.out
      have qc0 : u5.cell? ⟨(w.heap.size + 1 + 1), 0, none⟩ = some (.int .i64 0) := F9.out.cell 0
      have qf0 : u5.frozen? ⟨(w.heap.size + 1 + 1), 0, none⟩ = false := F9.out.free 0
      have qc1 : u5.cell? ⟨(w.heap.size + 1 + 1), 1, none⟩ = some (.bool false) := F9.out.cell 1
      have qf1 : u5.frozen? ⟨(w.heap.size + 1 + 1), 1, none⟩ = false := F9.out.free 1
      have qc2 : u5.cell? ⟨(w.heap.size + 1 + 1), 2, none⟩ = some (.bool false) := F9.out.cell 2
      have qf2 : u5.frozen? ⟨(w.heap.size + 1 + 1), 2, none⟩ = false := F9.out.free 2
      have qc3 : u5.cell? ⟨(w.heap.size + 1 + 1), 3, none⟩ = some (.bool false) := F9.out.cell 3
      have qf3 : u5.frozen? ⟨(w.heap.size + 1 + 1), 3, none⟩ = false := F9.out.free 3
      have qc4 : u5.cell? ⟨(w.heap.size + 1 + 1), 4, none⟩ = some (.bool false) := F9.out.cell 4
      have qf4 : u5.frozen? ⟨(w.heap.size + 1 + 1), 4, none⟩ = false := F9.out.free 4
      have qc5 : u5.cell? ⟨(w.heap.size + 1 + 1), 5, none⟩ = some (.bool false) := F9.out.cell 5
      have qf5 : u5.frozen? ⟨(w.heap.size + 1 + 1), 5, none⟩ = false := F9.out.free 5
      have qc6 : u5.cell? ⟨(w.heap.size + 1 + 1), 6, none⟩ = some (.bool false) := F9.out.cell 6
      have qf6 : u5.frozen? ⟨(w.heap.size + 1 + 1), 6, none⟩ = false := F9.out.free 6
      go_wp2_with fail
      change bodyPost _ _ _ _ _ (World.setCells u5 (w.heap.size + 1 + 1) 0 [.int .i64 0, .bool false, .bool false, .bool false, .bool false, .bool false, .bool false])
      have hr := run_loadVar_mid (P := Tryd.prog) (World.setCells u5 (w.heap.size + 1 + 1) 0 [.int .i64 0, .bool false, .bool false, .bool false, .bool false, .bool false, .bool false]) (w.heap.size + 1 + 1) 0 47 [.int .i64 0, .bool false, .bool false, .bool false, .bool false, .bool false, .bool false] _ (World.rangeAt_setCells_same _ (w.heap.size + 1 + 1) 0 [.int .i64 0, .bool false, .bool false, .bool false, .bool false, .bool false, .bool false] (show World.there u5 (w.heap.size + 1 + 1) 0 7 from F9.out.there)) Tryd.underlying47 rfl rf_info
      refine bodyPost_ret (v := .tuple #[.agg #[.int .i64 0, .bool false, .bool false, .bool false, .bool false, .bool false, .bool false], .int .i64 (1 + codeV x u f), .int .i64 9]) ?_ rfl ⟨by rw [EF.out]; first | rfl | (simp [WR.no]; omega), NO.out _ _ _ EF.out _ (below_scs8 B9.out (by omega) _ _)⟩
      exact results_three8 Tryd.results8 _ _ _ _ _ _ _ rfl rfl rfl hr
    have EF : Hid (walkW (hasH 8 [(7, 8)]) M root addr x u f = (⟨0, 0, 0, fr, bw, bu, bx, bG, lg, bD, marksN M acc x acc.length⟩ : WR)) := EE.out.trans (if_pos rfl)
    clear EE CD' NO
    obtain ⟨gg, cy, hy, hm0⟩ := X2.out.marks BM.out hn.1
    have m0 : Hid (Lm w u2 g cap mb m x u f fb gg [.int .i64 fr, .bool bw, .bool bu, .bool bx, .bool bG, .bool lg, .bool bD] M acc 0) := hm0
    subst hy
    have n1 := hn.1
    have n4 := hn.2
    obtain ⟨n, Hn⟩ : ∃ n, acc.length = n := ⟨_, rfl⟩
    have HN : Hid (acc.length = n) := Hn
    rw [Hn] at n1 n4 ⊢
    clear hm0 X2 hn Hn
    go_wp2_with fail
    go_loopw [148] (fun i W => ∃ k : Nat, k ≤ n ∧ i = .int .i64 k ∧ Hid (Lm w W g cap mb m x u f fb gg [.int .i64 fr, .bool bw, .bool bu, .bool bx, .bool bG, .bool lg, .bool bD] M acc k)) (fun i _ => n - (intOf i).toNat)
    case atStart => exact ⟨0, by omega, rfl, m0⟩
    case round =>
      obtain ⟨k, hk, rfl, hw⟩ := hrel
      by_cases ck : k < n
      · have d0 : decide ((k : Int) < (n : Int)) = true := by simp; omega
        have hk2 : k < acc.length := by have := HN.out; omega
        obtain ⟨T, P, hTP⟩ : ∃ T P, acc[k]? = some (T, P) := ⟨acc[k].1, acc[k].2, List.getElem?_eq_getElem hk2⟩
        have HT : Hid (acc[k]? = some (T, P)) := hTP
        have qb := hq.out (T, P) (List.mem_of_getElem? hTP)
        have t0 : 0 ≤ T := qb.1.1
        have t1 : T < 1048576 := qb.1.2
        have p0 : 0 ≤ P := qb.2.1
        have p1 : P < 512 := qb.2.2
        obtain ⟨Q, hQ⟩ : ∃ Q, Q = T * 4096 + P * 8 := ⟨_, rfl⟩
        have q0 : 0 ≤ Q := by omega
        have q1 : Q < 4294967296 := by omega
        have rk : wr.cell? ⟨gg, k, none⟩ = some (.int .u64 Q) := by rw [hQ]; exact hw.out.rd k _ hTP
        obtain ⟨Y, hY⟩ : ∃ Y, Y = entV (marksN M acc x k) T P := ⟨_, rfl⟩
        have yb : 0 ≤ Y ∧ Y < 18446744073709551616 := by rw [hY]; exact ent_bd (marks_byte HM.out acc x k) T P
        have y0 := yb.1
        have y1 := yb.2
        obtain ⟨lst, hls⟩ : ∃ b, (x && decide (k + 1 = n)) = b := ⟨_, rfl⟩
        obtain ⟨Y3, hY3⟩ : ∃ Y3, Y3 = orb (entV M T P) (if lst then 96 else 32) := ⟨_, rfl⟩
        have mr : markR Y lst = Y3 := by rw [hY, hY3]; exact mk_same HM.out (marks_mk HM.out acc x k hk2) T P lst
        have y3b : 0 ≤ Y3 ∧ Y3 < 18446744073709551616 := by
          rw [hY3]; have eb := ent_bd HM.out T P; cases lst
          · exact orb_bd _ _ eb.1 eb.2 (by decide) (by decide)
          · exact orb_bd _ _ eb.1 eb.2 (by decide) (by decide)
        obtain ⟨Y2, hY2⟩ : ∃ Y2, Y2 = setB Y 5 := ⟨_, rfl⟩
        have y2b : 0 ≤ Y2 ∧ Y2 < 18446744073709551616 := by rw [hY2]; exact setB_lt y0 y1 5 (Or.inl rfl)
        have y20 := y2b.1
        have y21 := y2b.2
        obtain ⟨b5, hb5⟩ : ∃ b, bt (Y / 32) = b := ⟨_, rfl⟩
        obtain ⟨b6, hb6⟩ : ∃ b, bt (Y2 / 64) = b := ⟨_, rfl⟩
        have s5 : (b5 = true → Y2 = Y) ∧ (b5 = false → Y2 = Y + 32) := by
          rw [hY2, ← hb5]; unfold setB; simp only [Int.reducePow]
          constructor <;> intro h <;> simp [h]
        have s6 : (lst && !b6) = true ∧ Y3 = Y2 + 64 ∨ (lst && !b6) = false ∧ Y3 = Y2 := by
          rw [← mr, ← hb6]; unfold markR; rw [← hY2]
          cases lst
          · right; simp
          · cases c : bt (Y2 / 64)
            · left; refine ⟨rfl, ?_⟩; simp only [if_true]; unfold setB; simp only [Int.reducePow]; simp [c]
            · right; refine ⟨rfl, ?_⟩; simp only [if_true]; unfold setB; simp only [Int.reducePow]; simp [c]
        have BC : Hid (∀ W : World, Calls Tryd.prog 34 #[.int .u64 Y, .int .i64 5] W fun e w' => e = .returned (.bool b5) ∧ w' = W) := fun W => by
          have h := (bit_c Y y0 y1).out 5 (by omega) (by omega) W
          rw [show (Y / 2 ^ (5 : Int).toNat) = Y / 32 from rfl, hb5] at h; exact h
        have BC6 : Hid (∀ W : World, Calls Tryd.prog 34 #[.int .u64 Y2, .int .i64 6] W fun e w' => e = .returned (.bool b6) ∧ w' = W) := fun W => by
          have h := (bit_c Y2 y20 y21).out 6 (by omega) (by omega) W
          rw [show (Y2 / 2 ^ (6 : Int).toNat) = Y2 / 64 from rfl, hb6] at h; exact h
        have LC : Hid (∀ W : World, Lm w W g cap mb m x u f fb gg [.int .i64 fr, .bool bw, .bool bu, .bool bx, .bool bG, .bool lg, .bool bD] M acc k → Calls Tryd.prog 29 #[.agg #[.int .i64 8, .slice (some ⟨g, 0, none⟩) 1 cap, .map (some mb)], .int .u64 Q, .int .i64 8] W fun e w' => e = .returned (.int .u64 Y) ∧ Below W.heap.size W w') := fun W h => by
          rw [hQ, hY]
          exact rload_any 8 _ mb _ _ _ 8 (by omega) (by omega) (by omega) W h.mem rfl (marks_byte HM.out acc x k)
        have SC : Hid (∀ W : World, Lm w W g cap mb m x u f fb gg [.int .i64 fr, .bool bw, .bool bu, .bool bx, .bool bG, .bool lg, .bool bD] M acc k → Calls Tryd.prog 16 #[.agg #[.int .i64 8, .slice (some ⟨g, 0, none⟩) 1 cap, .map (some mb)], .int .u64 Q, .int .i64 8, .int .u64 Y3] W fun e w' => e = .returned (.tuple #[]) ∧ Lm w w' g cap mb m x u f fb gg [.int .i64 fr, .bool bw, .bool bu, .bool bx, .bool bG, .bool lg, .bool bD] M acc (k + 1)) := fun W h => by
          refine (rstore_any 8 (.slice (some ⟨g, 0, none⟩) 1 cap) mb (m + 8 * k) (marksN M acc x k) Q 8 Y3 q0 (by omega) (by omega) y3b.1 y3b.2 W h.mem (by omega) rfl).mono ?_
          rintro e w' ⟨rfl, h1, h2⟩
          refine ⟨rfl, h.next HT.out ?_ h2⟩
          rw [HN.out, hls, ← hY3, ← hQ]; exact h1
        have HLS : Hid ((x && decide (k + 1 = n)) = lst) := hls
        have S5 : Hid ((b5 = true → Y2 = Y) ∧ (b5 = false → Y2 = Y + 32)) := s5
        have S6 : Hid ((lst && !b6) = true ∧ Y3 = Y2 + 64 ∨ (lst && !b6) = false ∧ Y3 = Y2) := s6
        have Y3B : Hid (0 ≤ Y3 ∧ Y3 < 18446744073709551616) := y3b
        clear hTP qb hQ hY yb hls hY3 mr y3b hY2 y2b hb5 hb6 s5 s6 hk2 m0
        have lgw : gg < wr.heap.size := hw.out.lg
        have rc0 : wr.cell? ⟨w.heap.size, 0, none⟩ = some (.int .i64 8) := hw.out.r.cell 0
        have rc1 : wr.cell? ⟨w.heap.size, 1, none⟩ = some (.slice (some ⟨g, 0, none⟩) 1 cap) := hw.out.r.cell 1
        have rc2 : wr.cell? ⟨w.heap.size, 2, none⟩ = some (.map (some mb)) := hw.out.r.cell 2
        go_wp2_with fail
        refine (LC.out _ hw.out).mono ?_
        rintro e u3 ⟨rfl, hb⟩
        have W3 : Hid (Lm w u3 g cap mb m x u f fb gg [.int .i64 fr, .bool bw, .bool bu, .bool bx, .bool bG, .bool lg, .bool bD] M acc k) := hw.out.below hb
        clear hb hw rc0 rc1 rc2 rk lgw LC
        go_wp2_with fail
        refine (BC.out _).mono ?_
        rintro e u3' ⟨rfl, rfl⟩
        go_upto_if 158 with fail
        go_cut [20] (fun v wx => v = .int .u64 Y2 ∧ wx = u3')
        case first =>
          have s1 := S5.out.1
          have s2 := S5.out.2
          clear S5 S6
          cases b5
          · have e1 := s2 rfl
            clear s1 s2
            subst e1
            go_wp2_with fail
            go_meet
            exact ⟨rfl, rfl⟩
          · have e1 := s1 rfl
            clear s1 s2
            subst e1
            go_wp2_with fail
            go_meet
            exact ⟨rfl, rfl⟩
        obtain ⟨h20, hwc⟩ := hcut
        subst h20
        subst hwc
        have ac0 : wc.cell? ⟨w.heap.size + 1, 0, none⟩ = some (.bool x) := W3.out.a.cell 0
        have ac1 : wc.cell? ⟨w.heap.size + 1, 1, none⟩ = some (.bool u) := W3.out.a.cell 1
        have ac2 : wc.cell? ⟨w.heap.size + 1, 2, none⟩ = some (.bool f) := W3.out.a.cell 2
        go_upto_region 40 with fail
        go_cut [174] (fun v wx => v = .bool (lst && !b6) ∧ wx = wc)
        case first =>
          have hls := HLS.out
          clear HLS S5 S6 SC
          rcases Bool.eq_false_or_eq_true x with hx | hx
          rotate_left
          · have e1 : lst = false := by rw [← hls, hx]; rfl
            rw [hx] at ac0
            have HX9 : Hid (x = false) := hx
            clear hx hls
            subst e1
            go_wp2_with fail
            go_meet
            exact ⟨rfl, rfl⟩
          rw [hx] at ac0
          by_cases cl : k + 1 = n
          · have e1 : lst = true := by rw [← hls, hx]; simp [cl]
            clear hx hls
            subst e1
            have kb : ((k : Int) == (n : Int) - 1) = true := by simp; omega
            go_wp2_with fail
            refine (BC6.out _).mono ?_
            rintro e u4' ⟨rfl, rfl⟩
            go_wp2_with fail
            go_meet
            exact ⟨rfl, rfl⟩
          · have e1 : lst = false := by rw [← hls, hx]; simp [cl]
            clear hx hls
            subst e1
            have kb : ((k : Int) == (n : Int) - 1) = false := by simp; omega
            go_wp2_with fail
            go_meet
            exact ⟨rfl, rfl⟩
        obtain ⟨h174, hwc⟩ := hcut
        obtain ⟨bb, hbb⟩ : ∃ b, (lst && !b6) = b := ⟨_, rfl⟩
        rw [hbb] at S6 h174
        subst h174
        subst hwc
        clear hbb
        go_upto_if 174 with fail
        go_cut [20] (fun v wx => v = .int .u64 Y3 ∧ wx = wc)
        case first =>
          have yy1 := Y3B.out.1
          have yy2 := Y3B.out.2
          rcases S6.out with ⟨e1, e2⟩ | ⟨e1, e2⟩
          · clear S6 SC Y3B
            subst e1
            subst e2
            go_wp2_with fail
            go_meet
            exact ⟨rfl, rfl⟩
          · clear S6 SC Y3B
            subst e1
            subst e2
            go_wp2_with fail
            go_meet
            exact ⟨rfl, rfl⟩
        obtain ⟨h20, hwc⟩ := hcut
        subst h20
        subst hwc
        clear ac0 ac1 ac2
        have rc0 : wc.cell? ⟨w.heap.size, 0, none⟩ = some (.int .i64 8) := W3.out.r.cell 0
        have rc1 : wc.cell? ⟨w.heap.size, 1, none⟩ = some (.slice (some ⟨g, 0, none⟩) 1 cap) := W3.out.r.cell 1
        have rc2 : wc.cell? ⟨w.heap.size, 2, none⟩ = some (.map (some mb)) := W3.out.r.cell 2
        go_wp2_with fail
        refine (SC.out _ W3.out).mono ?_
        rintro e u7 ⟨rfl, h7⟩
        have W7 : Hid (Lm w u7 g cap mb m x u f fb gg [.int .i64 fr, .bool bw, .bool bu, .bool bx, .bool bG, .bool lg, .bool bD] M acc (k + 1)) := h7
        clear h7 W3 rc0 rc1 rc2
        go_wp2_with fail
        go_roundw
        case rel => exact ⟨k + 1, by omega, by go_num, W7⟩
        case measure => simp [intOf]; omega
      · have kn : k = n := by omega
        subst kn
        have d0 : decide ((k : Int) < (k : Int)) = false := by simp
        clear ck m0
        have hc0 : wr.cell? ⟨fb, 0, none⟩ = some (.int .i64 fr) := hw.out.h.cell 0
        have hc1 : wr.cell? ⟨fb, 1, none⟩ = some (.bool bw) := hw.out.h.cell 1
        have hc2 : wr.cell? ⟨fb, 2, none⟩ = some (.bool bu) := hw.out.h.cell 2
        have hc3 : wr.cell? ⟨fb, 3, none⟩ = some (.bool bx) := hw.out.h.cell 3
        have hc4 : wr.cell? ⟨fb, 4, none⟩ = some (.bool bG) := hw.out.h.cell 4
        have hc5 : wr.cell? ⟨fb, 5, none⟩ = some (.bool lg) := hw.out.h.cell 5
        have hc6 : wr.cell? ⟨fb, 6, none⟩ = some (.bool bD) := hw.out.h.cell 6
        have F9 : Hid (Blk wr (w.heap.size + 1 + 1) [.int .i64 0, .bool false, .bool false, .bool false, .bool false, .bool false, .bool false] 47) := hw.out.z
        have lf9 : w.heap.size + 1 + 1 < wr.heap.size := blk_lt F9.out
        have lf8 : fb < wr.heap.size := blk_lt hw.out.h
        have lo9 : w.heap.size + 1 + 1 < fb := hw.out.lo
        have qc0 : wr.cell? ⟨(w.heap.size + 1 + 1), 0, none⟩ = some (.int .i64 0) := F9.out.cell 0
        have qf0 : wr.frozen? ⟨(w.heap.size + 1 + 1), 0, none⟩ = false := F9.out.free 0
        have qc1 : wr.cell? ⟨(w.heap.size + 1 + 1), 1, none⟩ = some (.bool false) := F9.out.cell 1
        have qf1 : wr.frozen? ⟨(w.heap.size + 1 + 1), 1, none⟩ = false := F9.out.free 1
        have qc2 : wr.cell? ⟨(w.heap.size + 1 + 1), 2, none⟩ = some (.bool false) := F9.out.cell 2
        have qf2 : wr.frozen? ⟨(w.heap.size + 1 + 1), 2, none⟩ = false := F9.out.free 2
        have qc3 : wr.cell? ⟨(w.heap.size + 1 + 1), 3, none⟩ = some (.bool false) := F9.out.cell 3
        have qf3 : wr.frozen? ⟨(w.heap.size + 1 + 1), 3, none⟩ = false := F9.out.free 3
        have qc4 : wr.cell? ⟨(w.heap.size + 1 + 1), 4, none⟩ = some (.bool false) := F9.out.cell 4
        have qf4 : wr.frozen? ⟨(w.heap.size + 1 + 1), 4, none⟩ = false := F9.out.free 4
        have qc5 : wr.cell? ⟨(w.heap.size + 1 + 1), 5, none⟩ = some (.bool false) := F9.out.cell 5
        have qf5 : wr.frozen? ⟨(w.heap.size + 1 + 1), 5, none⟩ = false := F9.out.free 5
        have qc6 : wr.cell? ⟨(w.heap.size + 1 + 1), 6, none⟩ = some (.bool false) := F9.out.cell 6
        have qf6 : wr.frozen? ⟨(w.heap.size + 1 + 1), 6, none⟩ = false := F9.out.free 6
        go_wp2_with fail
        change bodyPost _ _ _ _ _ (World.setCells wr (w.heap.size + 1 + 1) 0 [.int .i64 fr, .bool bw, .bool bu, .bool bx, .bool bG, .bool lg, .bool bD])
        have hr := run_loadVar_mid (P := Tryd.prog) (World.setCells wr (w.heap.size + 1 + 1) 0 [.int .i64 fr, .bool bw, .bool bu, .bool bx, .bool bG, .bool lg, .bool bD]) (w.heap.size + 1 + 1) 0 47 [.int .i64 fr, .bool bw, .bool bu, .bool bx, .bool bG, .bool lg, .bool bD] _ (World.rangeAt_setCells_same _ (w.heap.size + 1 + 1) 0 [.int .i64 fr, .bool bw, .bool bu, .bool bx, .bool bG, .bool lg, .bool bD] (show World.there wr (w.heap.size + 1 + 1) 0 7 from F9.out.there)) Tryd.underlying47 rfl rf_info
        have bs : Below w.heap.size wr (World.setCells wr (w.heap.size + 1 + 1) 0 [.int .i64 fr, .bool bw, .bool bu, .bool bx, .bool bG, .bool lg, .bool bD]) := below_scs8 ⟨rfl, rfl, rfl, Nat.le_refl _, fun _ _ => rfl⟩ (by omega) _ _
        have gr := hw.out.gr
        refine bodyPost_ret (v := .tuple #[.agg #[.int .i64 fr, .bool bw, .bool bu, .bool bx, .bool bG, .bool lg, .bool bD], .int .i64 0, .int .i64 0]) ?_ rfl ⟨by rw [EF.out], ⟨m + 8 * k, by omega, by rw [EF.out]; show BMem _ mb _ (marksN M acc x acc.length); rw [HN.out]; exact hw.out.mem.blk (bs.block mb hw.out.lm)⟩, bs.os.trans gr.os, bs.tape.trans gr.tape, bs.output.trans gr.output, Nat.le_trans gr.size bs.size, fun j hj hne => (bs.block j hj).trans (gr.block j hj hne)⟩
        exact results_three8 Tryd.results8 _ _ _ _ _ _ _ rfl rfl rfl hr
  case first =>
    go_wp2_with fail
    go_loopw [12, 13, 14] (fun y t i wr => ∃ (L : Nat) (T ℓ : Int) (acc : List (Int × Int)), L ≤ 3 ∧ t = .int .i64 T ∧ i = .int .i64 ℓ ∧ ℓ = ((L + 1 : Nat) : Int) ∧ (0 ≤ T ∧ T < 1048576) ∧ acc.length = 3 - L ∧ Hid (Lw w wr g cap mb x u f fb M acc y) ∧ Hid (walkW (hasH 8 [(7, 8)]) M root addr x u f = restW (hasH 8 [(7, 8)]) M addr (codeV x u f) x u f (L + 1) T acc) ∧ Hid (∀ q ∈ acc, (0 ≤ q.1 ∧ q.1 < 1048576) ∧ (0 ≤ q.2 ∧ q.2 < 512))) (fun _ _ i _ => (intOf i).toNat)
    case atStart => exact ⟨3, root, 4, [], by omega, rfl, rfl, rfl, r0, rfl, L0, GL, fun q hq => by cases hq⟩
    case round =>
      obtain ⟨L, T, ℓ, acc, hL, rfl, rfl, hl, hT, ha, hw, hx, hq⟩ := hrel
      have d0 : decide (0 < ℓ) = true := by simp; omega
      have l1 : 1 ≤ ℓ := by omega
      have l4 : ℓ ≤ 4 := by omega
      have t0 := hT.1
      have t1 := hT.2
      obtain ⟨P, hP⟩ : ∃ P, P = pL addr (L + 1) := ⟨_, rfl⟩
      have pb : 0 ≤ P ∧ P < 512 := by rw [hP]; unfold pL; constructor <;> omega
      have p0 := pb.1
      have p1 := pb.2
      have PC : Hid (∀ W : World, Calls Tryd.prog 28 #[.int .u64 addr, .int .i64 (3 + 9 * ((L : Int) + 1)), .int .i64 9] W fun e w' => e = .returned (.int .i64 P) ∧ w' = W) := fun W => by
        have h := PT.out (3 + 9 * (L + 1)) W (by omega)
        rw [show ((3 + 9 * (L + 1) : Nat) : Int) = 3 + 9 * ((L : Int) + 1) by omega] at h
        rw [hP]; exact h
      obtain ⟨X, hX⟩ : ∃ X, X = entV M T P := ⟨_, rfl⟩
      have xb : 0 ≤ X ∧ X < 18446744073709551616 := by rw [hX]; exact EB.out T P
      have LC : Hid (∀ W : World, Below w.heap.size w W → Calls Tryd.prog 29 #[.agg #[.int .i64 8, .slice (some ⟨g, 0, none⟩) 1 cap, .map (some mb)], .int .u64 (T * 4096 + 8 * P), .int .i64 8] W fun e w' => e = .returned (.int .u64 X) ∧ Below W.heap.size W w') := fun W hb => by
        have h := LD.out T P W t0 t1 p0 p1 hb
        rw [hX, show T * 4096 + 8 * P = T * 4096 + P * 8 by omega]; exact h
      have HP : Hid (P = pL addr (L + 1)) := hP
      have HX : Hid (X = entV M T P) := hX
      have x0 := xb.1
      have x1 := xb.2
      have UC : Hid (∀ W : World, Calls Tryd.prog 30 #[.int .u64 X] W fun e w' => e = .returned (unp X) ∧ Below W.heap.size W w') := fun W => UN.out X W xb.1 xb.2
      have HQ : Hid (∀ q ∈ acc ++ [(T, P)], (0 ≤ q.1 ∧ q.1 < 1048576) ∧ (0 ≤ q.2 ∧ q.2 < 512)) := fun q h => by
        rcases List.mem_append.1 h with h | h
        · exact hq.out q h
        · rw [List.mem_singleton.1 h]; exact ⟨⟨t0, t1⟩, p0, p1⟩
      clear hP hX xb pb hT hq L0 GL
      have rc0 : wr.cell? ⟨w.heap.size, 0, none⟩ = some (.int .i64 8) := hw.out.r.cell 0
      have rc1 : wr.cell? ⟨w.heap.size, 1, none⟩ = some (.slice (some ⟨g, 0, none⟩) 1 cap) := hw.out.r.cell 1
      have rc2 : wr.cell? ⟨w.heap.size, 2, none⟩ = some (.map (some mb)) := hw.out.r.cell 2
      rcases rest_step (hasH 8 [(7, 8)]) M addr (codeV x u f) x u f L T acc t0 t1 with ⟨c0, ee⟩ | ⟨c0, c1, ee⟩ | ⟨c0, c1, c2, ee⟩ | ⟨c0, c1, c2, c3, ee⟩ | ⟨c0, c1, c2, c3, ee⟩
      · obtain ⟨acc', X', lg', q⟩ := HE.out
        exact absurd (q.symm.trans (hx.out.trans ee)) (end_ne _ _ _ _ _ _ _ _ _ 0 0 2 (by omega))
      · obtain ⟨acc', X', lg', q⟩ := HE.out
        exact absurd (q.symm.trans (hx.out.trans ee)) (end_ne _ _ _ _ _ _ _ _ _ addr (codeV x u f) 9 (by omega))
      · obtain ⟨acc', X', lg', q⟩ := HE.out
        exact absurd (q.symm.trans (hx.out.trans ee)) (end_ne _ _ _ _ _ _ _ _ _ addr (codeV x u f + 9) 9 (by omega))
      · have H0 : Hid (hasH 8 [(7, 8)] T = true) := c0
        have EE : Hid (walkW (hasH 8 [(7, 8)]) M root addr x u f = endL M addr (codeV x u f) x u f (acc ++ [(T, P)]) X (decide (L = 1))) := by
          rw [← HP.out, ← HX.out] at ee; exact hx.out.trans ee
        rw [← HP.out, ← HX.out] at c1 c2 c3
        have C1 : Hid (bt X = true) := c1
        have RC : Hid (∀ W : World, Calls Tryd.prog 32 #[.int .u64 X, .int .i64 ((L : Int) + 1)] W fun e w' => e = .returned (.bool false) ∧ w' = W) := fun W => by
          have h := RS.out X (((L + 1 : Nat)) : Int) W x0 x1
          rw [c2, show (((L + 1 : Nat)) : Int) = ((L : Int) + 1) by omega] at h; exact h
        have C3 : Hid (L = 0 ∨ (L = 1 ∧ bt (X / 128) = true)) := c3
        clear c0 ee hx c1 c2 c3
        go_wp2_with fail
        refine (HC.out T _ hw.out.bel).mono ?_
        rintro e u2 ⟨rfl, hb⟩
        rw [H0.out]
        have W2 : Hid (Lw w u2 g cap mb x u f fb M acc u12) := hw.out.below hb
        clear hb hw rc0 rc1 rc2
        have rc0 : u2.cell? ⟨w.heap.size, 0, none⟩ = some (.int .i64 8) := W2.out.r.cell 0
        have rc1 : u2.cell? ⟨w.heap.size, 1, none⟩ = some (.slice (some ⟨g, 0, none⟩) 1 cap) := W2.out.r.cell 1
        have rc2 : u2.cell? ⟨w.heap.size, 2, none⟩ = some (.map (some mb)) := W2.out.r.cell 2
        go_wp2_with fail
        refine (PC.out _).mono ?_
        rintro e u2' ⟨rfl, rfl⟩
        go_wp2_with fail
        refine (LC.out _ W2.out.bel).mono ?_
        rintro e u3 ⟨rfl, hb⟩
        have W3 : Hid (Lw w u3 g cap mb x u f fb M acc u12) := W2.out.below hb
        clear hb W2 rc0 rc1 rc2
        go_wp2_with fail
        refine (UC.out _).mono ?_
        rintro e u4 ⟨rfl, hb⟩
        have W4 : Hid (Lw w u4 g cap mb x u f fb M acc u12) := W3.out.below hb
        clear hb W3
        unfold unp
        rw [C1.out]
        have l4' : w.heap.size + 1 < u4.heap.size := blk_lt W4.out.a
        go_wp2_with fail
        refine (RC.out _).mono ?_
        rintro e u4' ⟨rfl, rfl⟩
        obtain ⟨v5, u6, r1, m6⟩ := mid_app X (T * 4096 + 8 * P) (by omega) W4.out
        have M6 : Hid (Mid w u6 g cap mb x u f fb u4.heap.size X [.int .i64 0, .bool (allW M acc), .bool (allU M acc), .bool (allX M acc), .bool false, .bool false, .bool false] (acc.map plA ++ [T * 4096 + 8 * P]) v5) := m6
        clear m6 W4 l4'
        obtain ⟨bw, hbw⟩ : ∃ b, allW M acc = b := ⟨_, rfl⟩
        obtain ⟨bu, hbu⟩ : ∃ b, allU M acc = b := ⟨_, rfl⟩
        obtain ⟨bx, hbx⟩ : ∃ b, allX M acc = b := ⟨_, rfl⟩
        have HBW : Hid (allW M acc = bw) := hbw
        have HBU : Hid (allU M acc = bu) := hbu
        have HBX : Hid (allX M acc = bx) := hbx
        rw [hbw, hbu, hbx] at M6
        clear hbw hbu hbx
        go_upto_region 20 with fail
        go_cut [12] (fun y wx => v5 = y ∧ wx = u6)
        case first =>
          go_wp2_with (at_builtin; refine wpList_appU rfl _ _ 87 rfl u12 (.slice (some ⟨u4.heap.size + 1, 0, none⟩) 1 1) rfl rfl v5 u6 r1 ?_)
          go_meet
          exact ⟨rfl, rfl⟩
        obtain ⟨h12, hwc⟩ := hcut
        subst h12
        subst hwc
        clear r1
        have ec0 : wc.cell? ⟨u4.heap.size, 0, none⟩ = some (.bool true) := M6.out.e.cell 0
        have ec1 : wc.cell? ⟨u4.heap.size, 1, none⟩ = some (.bool (bt (X / 2))) := M6.out.e.cell 1
        have ec2 : wc.cell? ⟨u4.heap.size, 2, none⟩ = some (.bool (bt (X / 4))) := M6.out.e.cell 2
        have ec3 : wc.cell? ⟨u4.heap.size, 3, none⟩ = some (.bool (bt (X / 32))) := M6.out.e.cell 3
        have ec4 : wc.cell? ⟨u4.heap.size, 4, none⟩ = some (.bool (bt (X / 64))) := M6.out.e.cell 4
        have ec5 : wc.cell? ⟨u4.heap.size, 5, none⟩ = some (.bool (bt (X / 128))) := M6.out.e.cell 5
        have ec6 : wc.cell? ⟨u4.heap.size, 6, none⟩ = some (.bool (bt (X / 256))) := M6.out.e.cell 6
        have ec7 : wc.cell? ⟨u4.heap.size, 7, none⟩ = some (.bool (bt (X / 9223372036854775808))) := M6.out.e.cell 7
        have ec8 : wc.cell? ⟨u4.heap.size, 8, none⟩ = some (.int .i64 (X / 4096 % 1048576)) := M6.out.e.cell 8
        have hc0 : wc.cell? ⟨fb, 0, none⟩ = some (.int .i64 0) := M6.out.h.cell 0
        have hf0 : wc.frozen? ⟨fb, 0, none⟩ = false := M6.out.h.free 0
        have hc1 : wc.cell? ⟨fb, 1, none⟩ = some (.bool bw) := M6.out.h.cell 1
        have hf1 : wc.frozen? ⟨fb, 1, none⟩ = false := M6.out.h.free 1
        have hc2 : wc.cell? ⟨fb, 2, none⟩ = some (.bool bu) := M6.out.h.cell 2
        have hf2 : wc.frozen? ⟨fb, 2, none⟩ = false := M6.out.h.free 2
        have hc3 : wc.cell? ⟨fb, 3, none⟩ = some (.bool bx) := M6.out.h.cell 3
        have hf3 : wc.frozen? ⟨fb, 3, none⟩ = false := M6.out.h.free 3
        have hc4 : wc.cell? ⟨fb, 4, none⟩ = some (.bool false) := M6.out.h.cell 4
        have hf4 : wc.frozen? ⟨fb, 4, none⟩ = false := M6.out.h.free 4
        have hc5 : wc.cell? ⟨fb, 5, none⟩ = some (.bool false) := M6.out.h.cell 5
        have hf5 : wc.frozen? ⟨fb, 5, none⟩ = false := M6.out.h.free 5
        have hc6 : wc.cell? ⟨fb, 6, none⟩ = some (.bool false) := M6.out.h.cell 6
        have hf6 : wc.frozen? ⟨fb, 6, none⟩ = false := M6.out.h.free 6
        have lfb : fb < wc.heap.size := blk_lt M6.out.h
        have leb : u4.heap.size < wc.heap.size := blk_lt M6.out.e
        go_upto_region 21 with fail
        go_cut [] (fun wx => Hid (Mid w wx g cap mb x u f fb u4.heap.size X [.int .i64 0, .bool (bw && bt (X / 2)), .bool bu, .bool bx, .bool false, .bool false, .bool false] (acc.map plA ++ [T * 4096 + 8 * P]) v5))
        case first =>
          cases bw
          · skip
            go_wp2_with fail
            go_meet
            exact M6.out.set 1 _
          · skip
            go_wp2_with fail
            go_meet
            exact M6.out.set 1 _
        have M7 : Hid (Mid w wc g cap mb x u f fb u4.heap.size X [.int .i64 0, .bool (bw && bt (X / 2)), .bool bu, .bool bx, .bool false, .bool false, .bool false] (acc.map plA ++ [T * 4096 + 8 * P]) v5) := hcut
        clear hcut M6 lfb leb
        clear ec0 ec1 ec2 ec3 ec4 ec5 ec6 ec7 ec8 hc0 hf0 hc1 hf1 hc2 hf2 hc3 hf3 hc4 hf4 hc5 hf5 hc6 hf6
        have ec0 : wc.cell? ⟨u4.heap.size, 0, none⟩ = some (.bool true) := M7.out.e.cell 0
        have ec1 : wc.cell? ⟨u4.heap.size, 1, none⟩ = some (.bool (bt (X / 2))) := M7.out.e.cell 1
        have ec2 : wc.cell? ⟨u4.heap.size, 2, none⟩ = some (.bool (bt (X / 4))) := M7.out.e.cell 2
        have ec3 : wc.cell? ⟨u4.heap.size, 3, none⟩ = some (.bool (bt (X / 32))) := M7.out.e.cell 3
        have ec4 : wc.cell? ⟨u4.heap.size, 4, none⟩ = some (.bool (bt (X / 64))) := M7.out.e.cell 4
        have ec5 : wc.cell? ⟨u4.heap.size, 5, none⟩ = some (.bool (bt (X / 128))) := M7.out.e.cell 5
        have ec6 : wc.cell? ⟨u4.heap.size, 6, none⟩ = some (.bool (bt (X / 256))) := M7.out.e.cell 6
        have ec7 : wc.cell? ⟨u4.heap.size, 7, none⟩ = some (.bool (bt (X / 9223372036854775808))) := M7.out.e.cell 7
        have ec8 : wc.cell? ⟨u4.heap.size, 8, none⟩ = some (.int .i64 (X / 4096 % 1048576)) := M7.out.e.cell 8
        have hc0 : wc.cell? ⟨fb, 0, none⟩ = some (.int .i64 0) := M7.out.h.cell 0
        have hf0 : wc.frozen? ⟨fb, 0, none⟩ = false := M7.out.h.free 0
        have hc1 : wc.cell? ⟨fb, 1, none⟩ = some (.bool (bw && bt (X / 2))) := M7.out.h.cell 1
        have hf1 : wc.frozen? ⟨fb, 1, none⟩ = false := M7.out.h.free 1
        have hc2 : wc.cell? ⟨fb, 2, none⟩ = some (.bool bu) := M7.out.h.cell 2
        have hf2 : wc.frozen? ⟨fb, 2, none⟩ = false := M7.out.h.free 2
        have hc3 : wc.cell? ⟨fb, 3, none⟩ = some (.bool bx) := M7.out.h.cell 3
        have hf3 : wc.frozen? ⟨fb, 3, none⟩ = false := M7.out.h.free 3
        have hc4 : wc.cell? ⟨fb, 4, none⟩ = some (.bool false) := M7.out.h.cell 4
        have hf4 : wc.frozen? ⟨fb, 4, none⟩ = false := M7.out.h.free 4
        have hc5 : wc.cell? ⟨fb, 5, none⟩ = some (.bool false) := M7.out.h.cell 5
        have hf5 : wc.frozen? ⟨fb, 5, none⟩ = false := M7.out.h.free 5
        have hc6 : wc.cell? ⟨fb, 6, none⟩ = some (.bool false) := M7.out.h.cell 6
        have hf6 : wc.frozen? ⟨fb, 6, none⟩ = false := M7.out.h.free 6
        have lfb : fb < wc.heap.size := blk_lt M7.out.h
        have leb : u4.heap.size < wc.heap.size := blk_lt M7.out.e
        go_upto_region 22 with fail
        go_cut [] (fun wx => Hid (Mid w wx g cap mb x u f fb u4.heap.size X [.int .i64 0, .bool (bw && bt (X / 2)), .bool (bu && bt (X / 4)), .bool bx, .bool false, .bool false, .bool false] (acc.map plA ++ [T * 4096 + 8 * P]) v5))
        case first =>
          cases bu
          · skip
            go_wp2_with fail
            go_meet
            exact M7.out.set 2 _
          · skip
            go_wp2_with fail
            go_meet
            exact M7.out.set 2 _
        have M8 : Hid (Mid w wc g cap mb x u f fb u4.heap.size X [.int .i64 0, .bool (bw && bt (X / 2)), .bool (bu && bt (X / 4)), .bool bx, .bool false, .bool false, .bool false] (acc.map plA ++ [T * 4096 + 8 * P]) v5) := hcut
        clear hcut M7 lfb leb
        clear ec0 ec1 ec2 ec3 ec4 ec5 ec6 ec7 ec8 hc0 hf0 hc1 hf1 hc2 hf2 hc3 hf3 hc4 hf4 hc5 hf5 hc6 hf6
        have ec0 : wc.cell? ⟨u4.heap.size, 0, none⟩ = some (.bool true) := M8.out.e.cell 0
        have ec1 : wc.cell? ⟨u4.heap.size, 1, none⟩ = some (.bool (bt (X / 2))) := M8.out.e.cell 1
        have ec2 : wc.cell? ⟨u4.heap.size, 2, none⟩ = some (.bool (bt (X / 4))) := M8.out.e.cell 2
        have ec3 : wc.cell? ⟨u4.heap.size, 3, none⟩ = some (.bool (bt (X / 32))) := M8.out.e.cell 3
        have ec4 : wc.cell? ⟨u4.heap.size, 4, none⟩ = some (.bool (bt (X / 64))) := M8.out.e.cell 4
        have ec5 : wc.cell? ⟨u4.heap.size, 5, none⟩ = some (.bool (bt (X / 128))) := M8.out.e.cell 5
        have ec6 : wc.cell? ⟨u4.heap.size, 6, none⟩ = some (.bool (bt (X / 256))) := M8.out.e.cell 6
        have ec7 : wc.cell? ⟨u4.heap.size, 7, none⟩ = some (.bool (bt (X / 9223372036854775808))) := M8.out.e.cell 7
        have ec8 : wc.cell? ⟨u4.heap.size, 8, none⟩ = some (.int .i64 (X / 4096 % 1048576)) := M8.out.e.cell 8
        have hc0 : wc.cell? ⟨fb, 0, none⟩ = some (.int .i64 0) := M8.out.h.cell 0
        have hf0 : wc.frozen? ⟨fb, 0, none⟩ = false := M8.out.h.free 0
        have hc1 : wc.cell? ⟨fb, 1, none⟩ = some (.bool (bw && bt (X / 2))) := M8.out.h.cell 1
        have hf1 : wc.frozen? ⟨fb, 1, none⟩ = false := M8.out.h.free 1
        have hc2 : wc.cell? ⟨fb, 2, none⟩ = some (.bool (bu && bt (X / 4))) := M8.out.h.cell 2
        have hf2 : wc.frozen? ⟨fb, 2, none⟩ = false := M8.out.h.free 2
        have hc3 : wc.cell? ⟨fb, 3, none⟩ = some (.bool bx) := M8.out.h.cell 3
        have hf3 : wc.frozen? ⟨fb, 3, none⟩ = false := M8.out.h.free 3
        have hc4 : wc.cell? ⟨fb, 4, none⟩ = some (.bool false) := M8.out.h.cell 4
        have hf4 : wc.frozen? ⟨fb, 4, none⟩ = false := M8.out.h.free 4
        have hc5 : wc.cell? ⟨fb, 5, none⟩ = some (.bool false) := M8.out.h.cell 5
        have hf5 : wc.frozen? ⟨fb, 5, none⟩ = false := M8.out.h.free 5
        have hc6 : wc.cell? ⟨fb, 6, none⟩ = some (.bool false) := M8.out.h.cell 6
        have hf6 : wc.frozen? ⟨fb, 6, none⟩ = false := M8.out.h.free 6
        have lfb : fb < wc.heap.size := blk_lt M8.out.h
        have leb : u4.heap.size < wc.heap.size := blk_lt M8.out.e
        go_upto_region 23 with fail
        go_cut [] (fun wx => Hid (Mid w wx g cap mb x u f fb u4.heap.size X [.int .i64 0, .bool (bw && bt (X / 2)), .bool (bu && bt (X / 4)), .bool (bx && !bt (X / 9223372036854775808)), .bool false, .bool false, .bool false] (acc.map plA ++ [T * 4096 + 8 * P]) v5))
        case first =>
          cases bx
          · skip
            go_wp2_with fail
            go_meet
            exact M8.out.set 3 _
          · skip
            go_wp2_with fail
            go_meet
            exact M8.out.set 3 _
        have M9 : Hid (Mid w wc g cap mb x u f fb u4.heap.size X [.int .i64 0, .bool (bw && bt (X / 2)), .bool (bu && bt (X / 4)), .bool (bx && !bt (X / 9223372036854775808)), .bool false, .bool false, .bool false] (acc.map plA ++ [T * 4096 + 8 * P]) v5) := hcut
        clear hcut M8 lfb leb
        clear ec0 ec1 ec2 ec3 ec4 ec5 ec6 ec7 ec8 hc0 hf0 hc1 hf1 hc2 hf2 hc3 hf3 hc4 hf4 hc5 hf5 hc6 hf6
        have e1 : (bw && bt (X / 2)) = allW M (acc ++ [(T, P)]) := by rw [allW_snoc, HBW.out, ← HX.out]
        have e2 : (bu && bt (X / 4)) = allU M (acc ++ [(T, P)]) := by rw [allU_snoc, HBU.out, ← HX.out]
        have e3 : (bx && !bt (X / 9223372036854775808)) = allX M (acc ++ [(T, P)]) := by rw [allX_snoc, HBX.out, ← HX.out]
        rw [e1, e2, e3] at M9
        clear e1 e2 e3 HBW HBU HBX
        rcases C3.out with l0 | ⟨l1', b7⟩
        · have k1 : ((L : Int) + 1 == 1) = true := by simp; omega
          have k2 : ((L : Int) + 1 == 2) = false := by simp; omega
          have k2' : ¬ ((L : Int) + 1 = 2) := by omega
          rw [decide_eq_false (by omega)] at EE
          clear C3
          have leb0 : u4.heap.size < wc.heap.size := blk_lt M9.out.e
          have ec8 : wc.cell? ⟨u4.heap.size, 8, none⟩ = some (.int .i64 (X / 4096 % 1048576)) := M9.out.e.cell 8
          have ec5 : wc.cell? ⟨u4.heap.size, 5, none⟩ = some (.bool (bt (X / 128))) := M9.out.e.cell 5
          go_upto_region 26 with fail
          clear leb0 ec8 ec5
          have ec0 : wc.cell? ⟨u4.heap.size, 0, none⟩ = some (.bool true) := M9.out.e.cell 0
          have ec1 : wc.cell? ⟨u4.heap.size, 1, none⟩ = some (.bool (bt (X / 2))) := M9.out.e.cell 1
          have ec2 : wc.cell? ⟨u4.heap.size, 2, none⟩ = some (.bool (bt (X / 4))) := M9.out.e.cell 2
          have ec3 : wc.cell? ⟨u4.heap.size, 3, none⟩ = some (.bool (bt (X / 32))) := M9.out.e.cell 3
          have ec4 : wc.cell? ⟨u4.heap.size, 4, none⟩ = some (.bool (bt (X / 64))) := M9.out.e.cell 4
          have ec5 : wc.cell? ⟨u4.heap.size, 5, none⟩ = some (.bool (bt (X / 128))) := M9.out.e.cell 5
          have ec6 : wc.cell? ⟨u4.heap.size, 6, none⟩ = some (.bool (bt (X / 256))) := M9.out.e.cell 6
          have ec7 : wc.cell? ⟨u4.heap.size, 7, none⟩ = some (.bool (bt (X / 9223372036854775808))) := M9.out.e.cell 7
          have ec8 : wc.cell? ⟨u4.heap.size, 8, none⟩ = some (.int .i64 (X / 4096 % 1048576)) := M9.out.e.cell 8
          have hc0 : wc.cell? ⟨fb, 0, none⟩ = some (.int .i64 0) := M9.out.h.cell 0
          have hf0 : wc.frozen? ⟨fb, 0, none⟩ = false := M9.out.h.free 0
          have hc1 : wc.cell? ⟨fb, 1, none⟩ = some (.bool (allW M (acc ++ [(T, P)]))) := M9.out.h.cell 1
          have hf1 : wc.frozen? ⟨fb, 1, none⟩ = false := M9.out.h.free 1
          have hc2 : wc.cell? ⟨fb, 2, none⟩ = some (.bool (allU M (acc ++ [(T, P)]))) := M9.out.h.cell 2
          have hf2 : wc.frozen? ⟨fb, 2, none⟩ = false := M9.out.h.free 2
          have hc3 : wc.cell? ⟨fb, 3, none⟩ = some (.bool (allX M (acc ++ [(T, P)]))) := M9.out.h.cell 3
          have hf3 : wc.frozen? ⟨fb, 3, none⟩ = false := M9.out.h.free 3
          have hc4 : wc.cell? ⟨fb, 4, none⟩ = some (.bool false) := M9.out.h.cell 4
          have hf4 : wc.frozen? ⟨fb, 4, none⟩ = false := M9.out.h.free 4
          have hc5 : wc.cell? ⟨fb, 5, none⟩ = some (.bool false) := M9.out.h.cell 5
          have hf5 : wc.frozen? ⟨fb, 5, none⟩ = false := M9.out.h.free 5
          have hc6 : wc.cell? ⟨fb, 6, none⟩ = some (.bool false) := M9.out.h.cell 6
          have hf6 : wc.frozen? ⟨fb, 6, none⟩ = false := M9.out.h.free 6
          have lfb : fb < wc.heap.size := blk_lt M9.out.h
          have leb : u4.heap.size < wc.heap.size := blk_lt M9.out.e
          go_upto_region 26 with fail
          go_cut [] (fun wx => Hid (Mid w wx g cap mb x u f fb u4.heap.size X [.int .i64 (X / 4096 % 1048576), .bool (allW M (acc ++ [(T, P)])), .bool (allU M (acc ++ [(T, P)])), .bool (allX M (acc ++ [(T, P)])), .bool false, .bool false, .bool false] (acc.map plA ++ [T * 4096 + 8 * P]) v5))
          case first =>
            go_wp2_with fail
            go_meet
            exact M9.out.set 0 _
          have M10 : Hid (Mid w wc g cap mb x u f fb u4.heap.size X [.int .i64 (X / 4096 % 1048576), .bool (allW M (acc ++ [(T, P)])), .bool (allU M (acc ++ [(T, P)])), .bool (allX M (acc ++ [(T, P)])), .bool false, .bool false, .bool false] (acc.map plA ++ [T * 4096 + 8 * P]) v5) := hcut
          clear hcut M9 lfb leb
          clear ec0 ec1 ec2 ec3 ec4 ec5 ec6 ec7 ec8 hc0 hf0 hc1 hf1 hc2 hf2 hc3 hf3 hc4 hf4 hc5 hf5 hc6 hf6
          have ec0 : wc.cell? ⟨u4.heap.size, 0, none⟩ = some (.bool true) := M10.out.e.cell 0
          have ec1 : wc.cell? ⟨u4.heap.size, 1, none⟩ = some (.bool (bt (X / 2))) := M10.out.e.cell 1
          have ec2 : wc.cell? ⟨u4.heap.size, 2, none⟩ = some (.bool (bt (X / 4))) := M10.out.e.cell 2
          have ec3 : wc.cell? ⟨u4.heap.size, 3, none⟩ = some (.bool (bt (X / 32))) := M10.out.e.cell 3
          have ec4 : wc.cell? ⟨u4.heap.size, 4, none⟩ = some (.bool (bt (X / 64))) := M10.out.e.cell 4
          have ec5 : wc.cell? ⟨u4.heap.size, 5, none⟩ = some (.bool (bt (X / 128))) := M10.out.e.cell 5
          have ec6 : wc.cell? ⟨u4.heap.size, 6, none⟩ = some (.bool (bt (X / 256))) := M10.out.e.cell 6
          have ec7 : wc.cell? ⟨u4.heap.size, 7, none⟩ = some (.bool (bt (X / 9223372036854775808))) := M10.out.e.cell 7
          have ec8 : wc.cell? ⟨u4.heap.size, 8, none⟩ = some (.int .i64 (X / 4096 % 1048576)) := M10.out.e.cell 8
          have hc0 : wc.cell? ⟨fb, 0, none⟩ = some (.int .i64 (X / 4096 % 1048576)) := M10.out.h.cell 0
          have hf0 : wc.frozen? ⟨fb, 0, none⟩ = false := M10.out.h.free 0
          have hc1 : wc.cell? ⟨fb, 1, none⟩ = some (.bool (allW M (acc ++ [(T, P)]))) := M10.out.h.cell 1
          have hf1 : wc.frozen? ⟨fb, 1, none⟩ = false := M10.out.h.free 1
          have hc2 : wc.cell? ⟨fb, 2, none⟩ = some (.bool (allU M (acc ++ [(T, P)]))) := M10.out.h.cell 2
          have hf2 : wc.frozen? ⟨fb, 2, none⟩ = false := M10.out.h.free 2
          have hc3 : wc.cell? ⟨fb, 3, none⟩ = some (.bool (allX M (acc ++ [(T, P)]))) := M10.out.h.cell 3
          have hf3 : wc.frozen? ⟨fb, 3, none⟩ = false := M10.out.h.free 3
          have hc4 : wc.cell? ⟨fb, 4, none⟩ = some (.bool false) := M10.out.h.cell 4
          have hf4 : wc.frozen? ⟨fb, 4, none⟩ = false := M10.out.h.free 4
          have hc5 : wc.cell? ⟨fb, 5, none⟩ = some (.bool false) := M10.out.h.cell 5
          have hf5 : wc.frozen? ⟨fb, 5, none⟩ = false := M10.out.h.free 5
          have hc6 : wc.cell? ⟨fb, 6, none⟩ = some (.bool false) := M10.out.h.cell 6
          have hf6 : wc.frozen? ⟨fb, 6, none⟩ = false := M10.out.h.free 6
          have lfb : fb < wc.heap.size := blk_lt M10.out.h
          have leb : u4.heap.size < wc.heap.size := blk_lt M10.out.e
          go_upto_region 27 with fail
          go_cut [] (fun wx => Hid (Mid w wx g cap mb x u f fb u4.heap.size X [.int .i64 (X / 4096 % 1048576), .bool (allW M (acc ++ [(T, P)])), .bool (allU M (acc ++ [(T, P)])), .bool (allX M (acc ++ [(T, P)])), .bool (bt (X / 256)), .bool false, .bool false] (acc.map plA ++ [T * 4096 + 8 * P]) v5))
          case first =>
            go_wp2_with fail
            go_meet
            exact M10.out.set 4 _
          have M11 : Hid (Mid w wc g cap mb x u f fb u4.heap.size X [.int .i64 (X / 4096 % 1048576), .bool (allW M (acc ++ [(T, P)])), .bool (allU M (acc ++ [(T, P)])), .bool (allX M (acc ++ [(T, P)])), .bool (bt (X / 256)), .bool false, .bool false] (acc.map plA ++ [T * 4096 + 8 * P]) v5) := hcut
          clear hcut M10 lfb leb
          clear ec0 ec1 ec2 ec3 ec4 ec5 ec6 ec7 ec8 hc0 hf0 hc1 hf1 hc2 hf2 hc3 hf3 hc4 hf4 hc5 hf5 hc6 hf6
          have ec0 : wc.cell? ⟨u4.heap.size, 0, none⟩ = some (.bool true) := M11.out.e.cell 0
          have ec1 : wc.cell? ⟨u4.heap.size, 1, none⟩ = some (.bool (bt (X / 2))) := M11.out.e.cell 1
          have ec2 : wc.cell? ⟨u4.heap.size, 2, none⟩ = some (.bool (bt (X / 4))) := M11.out.e.cell 2
          have ec3 : wc.cell? ⟨u4.heap.size, 3, none⟩ = some (.bool (bt (X / 32))) := M11.out.e.cell 3
          have ec4 : wc.cell? ⟨u4.heap.size, 4, none⟩ = some (.bool (bt (X / 64))) := M11.out.e.cell 4
          have ec5 : wc.cell? ⟨u4.heap.size, 5, none⟩ = some (.bool (bt (X / 128))) := M11.out.e.cell 5
          have ec6 : wc.cell? ⟨u4.heap.size, 6, none⟩ = some (.bool (bt (X / 256))) := M11.out.e.cell 6
          have ec7 : wc.cell? ⟨u4.heap.size, 7, none⟩ = some (.bool (bt (X / 9223372036854775808))) := M11.out.e.cell 7
          have ec8 : wc.cell? ⟨u4.heap.size, 8, none⟩ = some (.int .i64 (X / 4096 % 1048576)) := M11.out.e.cell 8
          have hc0 : wc.cell? ⟨fb, 0, none⟩ = some (.int .i64 (X / 4096 % 1048576)) := M11.out.h.cell 0
          have hf0 : wc.frozen? ⟨fb, 0, none⟩ = false := M11.out.h.free 0
          have hc1 : wc.cell? ⟨fb, 1, none⟩ = some (.bool (allW M (acc ++ [(T, P)]))) := M11.out.h.cell 1
          have hf1 : wc.frozen? ⟨fb, 1, none⟩ = false := M11.out.h.free 1
          have hc2 : wc.cell? ⟨fb, 2, none⟩ = some (.bool (allU M (acc ++ [(T, P)]))) := M11.out.h.cell 2
          have hf2 : wc.frozen? ⟨fb, 2, none⟩ = false := M11.out.h.free 2
          have hc3 : wc.cell? ⟨fb, 3, none⟩ = some (.bool (allX M (acc ++ [(T, P)]))) := M11.out.h.cell 3
          have hf3 : wc.frozen? ⟨fb, 3, none⟩ = false := M11.out.h.free 3
          have hc4 : wc.cell? ⟨fb, 4, none⟩ = some (.bool (bt (X / 256))) := M11.out.h.cell 4
          have hf4 : wc.frozen? ⟨fb, 4, none⟩ = false := M11.out.h.free 4
          have hc5 : wc.cell? ⟨fb, 5, none⟩ = some (.bool false) := M11.out.h.cell 5
          have hf5 : wc.frozen? ⟨fb, 5, none⟩ = false := M11.out.h.free 5
          have hc6 : wc.cell? ⟨fb, 6, none⟩ = some (.bool false) := M11.out.h.cell 6
          have hf6 : wc.frozen? ⟨fb, 6, none⟩ = false := M11.out.h.free 6
          have ac0 : wc.cell? ⟨w.heap.size + 1, 0, none⟩ = some (.bool x) := M11.out.a.cell 0
          have ac1 : wc.cell? ⟨w.heap.size + 1, 1, none⟩ = some (.bool u) := M11.out.a.cell 1
          have ac2 : wc.cell? ⟨w.heap.size + 1, 2, none⟩ = some (.bool f) := M11.out.a.cell 2
          have lfb : fb < wc.heap.size := blk_lt M11.out.h
          have leb : u4.heap.size < wc.heap.size := blk_lt M11.out.e
          have lab : w.heap.size + 1 < wc.heap.size := blk_lt M11.out.a
          go_upto_region 28 with fail
          go_cut [] (fun wx => Hid (Mid w wx g cap mb x u f fb u4.heap.size X [.int .i64 (X / 4096 % 1048576), .bool (allW M (acc ++ [(T, P)])), .bool (allU M (acc ++ [(T, P)])), .bool (allX M (acc ++ [(T, P)])), .bool (bt (X / 256)), .bool false, .bool (bt (X / 64) || x)] (acc.map plA ++ [T * 4096 + 8 * P]) v5))
          case first =>
            cases hbd : bt (X / 64)
            · skip
              rw [hbd] at ec4
              go_wp2_with fail
              go_meet
              rw [hbd]
              exact M11.out.set 6 _
            · skip
              rw [hbd] at ec4
              go_wp2_with fail
              go_meet
              rw [hbd]
              exact M11.out.set 6 _
          have M12 : Hid (Mid w wc g cap mb x u f fb u4.heap.size X [.int .i64 (X / 4096 % 1048576), .bool (allW M (acc ++ [(T, P)])), .bool (allU M (acc ++ [(T, P)])), .bool (allX M (acc ++ [(T, P)])), .bool (bt (X / 256)), .bool false, .bool (bt (X / 64) || x)] (acc.map plA ++ [T * 4096 + 8 * P]) v5) := hcut
          clear hcut M11 lfb leb lab ac0 ac1 ac2
          clear ec0 ec1 ec2 ec3 ec4 ec5 ec6 ec7 ec8 hc0 hf0 hc1 hf1 hc2 hf2 hc3 hf3 hc4 hf4 hc5 hf5 hc6 hf6
          have ec0 : wc.cell? ⟨u4.heap.size, 0, none⟩ = some (.bool true) := M12.out.e.cell 0
          have ec1 : wc.cell? ⟨u4.heap.size, 1, none⟩ = some (.bool (bt (X / 2))) := M12.out.e.cell 1
          have ec2 : wc.cell? ⟨u4.heap.size, 2, none⟩ = some (.bool (bt (X / 4))) := M12.out.e.cell 2
          have ec3 : wc.cell? ⟨u4.heap.size, 3, none⟩ = some (.bool (bt (X / 32))) := M12.out.e.cell 3
          have ec4 : wc.cell? ⟨u4.heap.size, 4, none⟩ = some (.bool (bt (X / 64))) := M12.out.e.cell 4
          have ec5 : wc.cell? ⟨u4.heap.size, 5, none⟩ = some (.bool (bt (X / 128))) := M12.out.e.cell 5
          have ec6 : wc.cell? ⟨u4.heap.size, 6, none⟩ = some (.bool (bt (X / 256))) := M12.out.e.cell 6
          have ec7 : wc.cell? ⟨u4.heap.size, 7, none⟩ = some (.bool (bt (X / 9223372036854775808))) := M12.out.e.cell 7
          have ec8 : wc.cell? ⟨u4.heap.size, 8, none⟩ = some (.int .i64 (X / 4096 % 1048576)) := M12.out.e.cell 8
          have hc0 : wc.cell? ⟨fb, 0, none⟩ = some (.int .i64 (X / 4096 % 1048576)) := M12.out.h.cell 0
          have hf0 : wc.frozen? ⟨fb, 0, none⟩ = false := M12.out.h.free 0
          have hc1 : wc.cell? ⟨fb, 1, none⟩ = some (.bool (allW M (acc ++ [(T, P)]))) := M12.out.h.cell 1
          have hf1 : wc.frozen? ⟨fb, 1, none⟩ = false := M12.out.h.free 1
          have hc2 : wc.cell? ⟨fb, 2, none⟩ = some (.bool (allU M (acc ++ [(T, P)]))) := M12.out.h.cell 2
          have hf2 : wc.frozen? ⟨fb, 2, none⟩ = false := M12.out.h.free 2
          have hc3 : wc.cell? ⟨fb, 3, none⟩ = some (.bool (allX M (acc ++ [(T, P)]))) := M12.out.h.cell 3
          have hf3 : wc.frozen? ⟨fb, 3, none⟩ = false := M12.out.h.free 3
          have hc4 : wc.cell? ⟨fb, 4, none⟩ = some (.bool (bt (X / 256))) := M12.out.h.cell 4
          have hf4 : wc.frozen? ⟨fb, 4, none⟩ = false := M12.out.h.free 4
          have hc5 : wc.cell? ⟨fb, 5, none⟩ = some (.bool false) := M12.out.h.cell 5
          have hf5 : wc.frozen? ⟨fb, 5, none⟩ = false := M12.out.h.free 5
          have hc6 : wc.cell? ⟨fb, 6, none⟩ = some (.bool (bt (X / 64) || x)) := M12.out.h.cell 6
          have hf6 : wc.frozen? ⟨fb, 6, none⟩ = false := M12.out.h.free 6
          have lfb : fb < wc.heap.size := blk_lt M12.out.h
          have leb : u4.heap.size < wc.heap.size := blk_lt M12.out.e
          go_upto_region 29 with fail
          go_cut [] (fun wx => Hid (Mid w wx g cap mb x u f fb u4.heap.size X [.int .i64 (X / 4096 % 1048576), .bool (allW M (acc ++ [(T, P)])), .bool (allU M (acc ++ [(T, P)])), .bool (allX M (acc ++ [(T, P)])), .bool (bt (X / 256)), .bool false, .bool (bt (X / 64) || x)] (acc.map plA ++ [T * 4096 + 8 * P]) v5))
          case first =>
            go_wp2_with fail
            go_meet
            exact M12.out.set 5 _
          have M13 : Hid (Mid w wc g cap mb x u f fb u4.heap.size X [.int .i64 (X / 4096 % 1048576), .bool (allW M (acc ++ [(T, P)])), .bool (allU M (acc ++ [(T, P)])), .bool (allX M (acc ++ [(T, P)])), .bool (bt (X / 256)), .bool false, .bool (bt (X / 64) || x)] (acc.map plA ++ [T * 4096 + 8 * P]) v5) := hcut
          clear hcut M12 lfb leb
          clear ec0 ec1 ec2 ec3 ec4 ec5 ec6 ec7 ec8 hc0 hf0 hc1 hf1 hc2 hf2 hc3 hf3 hc4 hf4 hc5 hf5 hc6 hf6
          have al : 1 ≤ (acc ++ [(T, P)]).length ∧ (acc ++ [(T, P)]).length ≤ 4 := by rw [List.length_append]; simp; omega
          have fe : X / 4096 % 1048576 = X / 4096 % 1048576 + (if (false : Bool) = true then pL addr 1 else 0) := by simp
          have hc5 : wc.cell? ⟨fb, 5, none⟩ = some (.bool false) := M13.out.h.cell 5
          have lfb : fb < wc.heap.size := blk_lt M13.out.h
          have X13 : Hid (Lx w wc g cap mb x u f fb [.int .i64 (X / 4096 % 1048576 + (if false = true then pL addr 1 else 0)), .bool (allW M (acc ++ [(T, P)])), .bool (allU M (acc ++ [(T, P)])), .bool (allX M (acc ++ [(T, P)])), .bool (bt (X / 256)), .bool false, .bool (bt (X / 64) || x)] (acc ++ [(T, P)]) v5) := by rw [fe] at M13; exact M13.out.out
          clear fe M13 HX HP
          go_wp2_with fail
          go_meet
          exact ⟨acc ++ [(T, P)], X, false, X13, EE, al, HQ⟩
        · have k1 : ((L : Int) + 1 == 1) = false := by simp; omega
          have k1' : ¬ ((L : Int) + 1 = 1) := by omega
          have k2 : ((L : Int) + 1 == 2) = true := by simp; omega
          rw [decide_eq_true (by omega)] at EE
          clear C3
          have leb0 : u4.heap.size < wc.heap.size := blk_lt M9.out.e
          have ec8 : wc.cell? ⟨u4.heap.size, 8, none⟩ = some (.int .i64 (X / 4096 % 1048576)) := M9.out.e.cell 8
          have ec5 : wc.cell? ⟨u4.heap.size, 5, none⟩ = some (.bool true) := by have h5 : wc.cell? ⟨u4.heap.size, 5, none⟩ = some (.bool (bt (X / 128))) := M9.out.e.cell 5; rw [b7] at h5; exact h5
          go_upto_region 26 with fail
          clear leb0 ec8 ec5
          have ec0 : wc.cell? ⟨u4.heap.size, 0, none⟩ = some (.bool true) := M9.out.e.cell 0
          have ec1 : wc.cell? ⟨u4.heap.size, 1, none⟩ = some (.bool (bt (X / 2))) := M9.out.e.cell 1
          have ec2 : wc.cell? ⟨u4.heap.size, 2, none⟩ = some (.bool (bt (X / 4))) := M9.out.e.cell 2
          have ec3 : wc.cell? ⟨u4.heap.size, 3, none⟩ = some (.bool (bt (X / 32))) := M9.out.e.cell 3
          have ec4 : wc.cell? ⟨u4.heap.size, 4, none⟩ = some (.bool (bt (X / 64))) := M9.out.e.cell 4
          have ec5 : wc.cell? ⟨u4.heap.size, 5, none⟩ = some (.bool (bt (X / 128))) := M9.out.e.cell 5
          have ec6 : wc.cell? ⟨u4.heap.size, 6, none⟩ = some (.bool (bt (X / 256))) := M9.out.e.cell 6
          have ec7 : wc.cell? ⟨u4.heap.size, 7, none⟩ = some (.bool (bt (X / 9223372036854775808))) := M9.out.e.cell 7
          have ec8 : wc.cell? ⟨u4.heap.size, 8, none⟩ = some (.int .i64 (X / 4096 % 1048576)) := M9.out.e.cell 8
          have hc0 : wc.cell? ⟨fb, 0, none⟩ = some (.int .i64 0) := M9.out.h.cell 0
          have hf0 : wc.frozen? ⟨fb, 0, none⟩ = false := M9.out.h.free 0
          have hc1 : wc.cell? ⟨fb, 1, none⟩ = some (.bool (allW M (acc ++ [(T, P)]))) := M9.out.h.cell 1
          have hf1 : wc.frozen? ⟨fb, 1, none⟩ = false := M9.out.h.free 1
          have hc2 : wc.cell? ⟨fb, 2, none⟩ = some (.bool (allU M (acc ++ [(T, P)]))) := M9.out.h.cell 2
          have hf2 : wc.frozen? ⟨fb, 2, none⟩ = false := M9.out.h.free 2
          have hc3 : wc.cell? ⟨fb, 3, none⟩ = some (.bool (allX M (acc ++ [(T, P)]))) := M9.out.h.cell 3
          have hf3 : wc.frozen? ⟨fb, 3, none⟩ = false := M9.out.h.free 3
          have hc4 : wc.cell? ⟨fb, 4, none⟩ = some (.bool false) := M9.out.h.cell 4
          have hf4 : wc.frozen? ⟨fb, 4, none⟩ = false := M9.out.h.free 4
          have hc5 : wc.cell? ⟨fb, 5, none⟩ = some (.bool false) := M9.out.h.cell 5
          have hf5 : wc.frozen? ⟨fb, 5, none⟩ = false := M9.out.h.free 5
          have hc6 : wc.cell? ⟨fb, 6, none⟩ = some (.bool false) := M9.out.h.cell 6
          have hf6 : wc.frozen? ⟨fb, 6, none⟩ = false := M9.out.h.free 6
          have lfb : fb < wc.heap.size := blk_lt M9.out.h
          have leb : u4.heap.size < wc.heap.size := blk_lt M9.out.e
          go_upto_region 26 with fail
          go_cut [] (fun wx => Hid (Mid w wx g cap mb x u f fb u4.heap.size X [.int .i64 (X / 4096 % 1048576), .bool (allW M (acc ++ [(T, P)])), .bool (allU M (acc ++ [(T, P)])), .bool (allX M (acc ++ [(T, P)])), .bool false, .bool false, .bool false] (acc.map plA ++ [T * 4096 + 8 * P]) v5))
          case first =>
            go_wp2_with fail
            go_meet
            exact M9.out.set 0 _
          have M10 : Hid (Mid w wc g cap mb x u f fb u4.heap.size X [.int .i64 (X / 4096 % 1048576), .bool (allW M (acc ++ [(T, P)])), .bool (allU M (acc ++ [(T, P)])), .bool (allX M (acc ++ [(T, P)])), .bool false, .bool false, .bool false] (acc.map plA ++ [T * 4096 + 8 * P]) v5) := hcut
          clear hcut M9 lfb leb
          clear ec0 ec1 ec2 ec3 ec4 ec5 ec6 ec7 ec8 hc0 hf0 hc1 hf1 hc2 hf2 hc3 hf3 hc4 hf4 hc5 hf5 hc6 hf6
          have ec0 : wc.cell? ⟨u4.heap.size, 0, none⟩ = some (.bool true) := M10.out.e.cell 0
          have ec1 : wc.cell? ⟨u4.heap.size, 1, none⟩ = some (.bool (bt (X / 2))) := M10.out.e.cell 1
          have ec2 : wc.cell? ⟨u4.heap.size, 2, none⟩ = some (.bool (bt (X / 4))) := M10.out.e.cell 2
          have ec3 : wc.cell? ⟨u4.heap.size, 3, none⟩ = some (.bool (bt (X / 32))) := M10.out.e.cell 3
          have ec4 : wc.cell? ⟨u4.heap.size, 4, none⟩ = some (.bool (bt (X / 64))) := M10.out.e.cell 4
          have ec5 : wc.cell? ⟨u4.heap.size, 5, none⟩ = some (.bool (bt (X / 128))) := M10.out.e.cell 5
          have ec6 : wc.cell? ⟨u4.heap.size, 6, none⟩ = some (.bool (bt (X / 256))) := M10.out.e.cell 6
          have ec7 : wc.cell? ⟨u4.heap.size, 7, none⟩ = some (.bool (bt (X / 9223372036854775808))) := M10.out.e.cell 7
          have ec8 : wc.cell? ⟨u4.heap.size, 8, none⟩ = some (.int .i64 (X / 4096 % 1048576)) := M10.out.e.cell 8
          have hc0 : wc.cell? ⟨fb, 0, none⟩ = some (.int .i64 (X / 4096 % 1048576)) := M10.out.h.cell 0
          have hf0 : wc.frozen? ⟨fb, 0, none⟩ = false := M10.out.h.free 0
          have hc1 : wc.cell? ⟨fb, 1, none⟩ = some (.bool (allW M (acc ++ [(T, P)]))) := M10.out.h.cell 1
          have hf1 : wc.frozen? ⟨fb, 1, none⟩ = false := M10.out.h.free 1
          have hc2 : wc.cell? ⟨fb, 2, none⟩ = some (.bool (allU M (acc ++ [(T, P)]))) := M10.out.h.cell 2
          have hf2 : wc.frozen? ⟨fb, 2, none⟩ = false := M10.out.h.free 2
          have hc3 : wc.cell? ⟨fb, 3, none⟩ = some (.bool (allX M (acc ++ [(T, P)]))) := M10.out.h.cell 3
          have hf3 : wc.frozen? ⟨fb, 3, none⟩ = false := M10.out.h.free 3
          have hc4 : wc.cell? ⟨fb, 4, none⟩ = some (.bool false) := M10.out.h.cell 4
          have hf4 : wc.frozen? ⟨fb, 4, none⟩ = false := M10.out.h.free 4
          have hc5 : wc.cell? ⟨fb, 5, none⟩ = some (.bool false) := M10.out.h.cell 5
          have hf5 : wc.frozen? ⟨fb, 5, none⟩ = false := M10.out.h.free 5
          have hc6 : wc.cell? ⟨fb, 6, none⟩ = some (.bool false) := M10.out.h.cell 6
          have hf6 : wc.frozen? ⟨fb, 6, none⟩ = false := M10.out.h.free 6
          have lfb : fb < wc.heap.size := blk_lt M10.out.h
          have leb : u4.heap.size < wc.heap.size := blk_lt M10.out.e
          go_upto_region 27 with fail
          go_cut [] (fun wx => Hid (Mid w wx g cap mb x u f fb u4.heap.size X [.int .i64 (X / 4096 % 1048576), .bool (allW M (acc ++ [(T, P)])), .bool (allU M (acc ++ [(T, P)])), .bool (allX M (acc ++ [(T, P)])), .bool (bt (X / 256)), .bool false, .bool false] (acc.map plA ++ [T * 4096 + 8 * P]) v5))
          case first =>
            go_wp2_with fail
            go_meet
            exact M10.out.set 4 _
          have M11 : Hid (Mid w wc g cap mb x u f fb u4.heap.size X [.int .i64 (X / 4096 % 1048576), .bool (allW M (acc ++ [(T, P)])), .bool (allU M (acc ++ [(T, P)])), .bool (allX M (acc ++ [(T, P)])), .bool (bt (X / 256)), .bool false, .bool false] (acc.map plA ++ [T * 4096 + 8 * P]) v5) := hcut
          clear hcut M10 lfb leb
          clear ec0 ec1 ec2 ec3 ec4 ec5 ec6 ec7 ec8 hc0 hf0 hc1 hf1 hc2 hf2 hc3 hf3 hc4 hf4 hc5 hf5 hc6 hf6
          have ec0 : wc.cell? ⟨u4.heap.size, 0, none⟩ = some (.bool true) := M11.out.e.cell 0
          have ec1 : wc.cell? ⟨u4.heap.size, 1, none⟩ = some (.bool (bt (X / 2))) := M11.out.e.cell 1
          have ec2 : wc.cell? ⟨u4.heap.size, 2, none⟩ = some (.bool (bt (X / 4))) := M11.out.e.cell 2
          have ec3 : wc.cell? ⟨u4.heap.size, 3, none⟩ = some (.bool (bt (X / 32))) := M11.out.e.cell 3
          have ec4 : wc.cell? ⟨u4.heap.size, 4, none⟩ = some (.bool (bt (X / 64))) := M11.out.e.cell 4
          have ec5 : wc.cell? ⟨u4.heap.size, 5, none⟩ = some (.bool (bt (X / 128))) := M11.out.e.cell 5
          have ec6 : wc.cell? ⟨u4.heap.size, 6, none⟩ = some (.bool (bt (X / 256))) := M11.out.e.cell 6
          have ec7 : wc.cell? ⟨u4.heap.size, 7, none⟩ = some (.bool (bt (X / 9223372036854775808))) := M11.out.e.cell 7
          have ec8 : wc.cell? ⟨u4.heap.size, 8, none⟩ = some (.int .i64 (X / 4096 % 1048576)) := M11.out.e.cell 8
          have hc0 : wc.cell? ⟨fb, 0, none⟩ = some (.int .i64 (X / 4096 % 1048576)) := M11.out.h.cell 0
          have hf0 : wc.frozen? ⟨fb, 0, none⟩ = false := M11.out.h.free 0
          have hc1 : wc.cell? ⟨fb, 1, none⟩ = some (.bool (allW M (acc ++ [(T, P)]))) := M11.out.h.cell 1
          have hf1 : wc.frozen? ⟨fb, 1, none⟩ = false := M11.out.h.free 1
          have hc2 : wc.cell? ⟨fb, 2, none⟩ = some (.bool (allU M (acc ++ [(T, P)]))) := M11.out.h.cell 2
          have hf2 : wc.frozen? ⟨fb, 2, none⟩ = false := M11.out.h.free 2
          have hc3 : wc.cell? ⟨fb, 3, none⟩ = some (.bool (allX M (acc ++ [(T, P)]))) := M11.out.h.cell 3
          have hf3 : wc.frozen? ⟨fb, 3, none⟩ = false := M11.out.h.free 3
          have hc4 : wc.cell? ⟨fb, 4, none⟩ = some (.bool (bt (X / 256))) := M11.out.h.cell 4
          have hf4 : wc.frozen? ⟨fb, 4, none⟩ = false := M11.out.h.free 4
          have hc5 : wc.cell? ⟨fb, 5, none⟩ = some (.bool false) := M11.out.h.cell 5
          have hf5 : wc.frozen? ⟨fb, 5, none⟩ = false := M11.out.h.free 5
          have hc6 : wc.cell? ⟨fb, 6, none⟩ = some (.bool false) := M11.out.h.cell 6
          have hf6 : wc.frozen? ⟨fb, 6, none⟩ = false := M11.out.h.free 6
          have ac0 : wc.cell? ⟨w.heap.size + 1, 0, none⟩ = some (.bool x) := M11.out.a.cell 0
          have ac1 : wc.cell? ⟨w.heap.size + 1, 1, none⟩ = some (.bool u) := M11.out.a.cell 1
          have ac2 : wc.cell? ⟨w.heap.size + 1, 2, none⟩ = some (.bool f) := M11.out.a.cell 2
          have lfb : fb < wc.heap.size := blk_lt M11.out.h
          have leb : u4.heap.size < wc.heap.size := blk_lt M11.out.e
          have lab : w.heap.size + 1 < wc.heap.size := blk_lt M11.out.a
          go_upto_region 28 with fail
          go_cut [] (fun wx => Hid (Mid w wx g cap mb x u f fb u4.heap.size X [.int .i64 (X / 4096 % 1048576), .bool (allW M (acc ++ [(T, P)])), .bool (allU M (acc ++ [(T, P)])), .bool (allX M (acc ++ [(T, P)])), .bool (bt (X / 256)), .bool false, .bool (bt (X / 64) || x)] (acc.map plA ++ [T * 4096 + 8 * P]) v5))
          case first =>
            cases hbd : bt (X / 64)
            · skip
              rw [hbd] at ec4
              go_wp2_with fail
              go_meet
              rw [hbd]
              exact M11.out.set 6 _
            · skip
              rw [hbd] at ec4
              go_wp2_with fail
              go_meet
              rw [hbd]
              exact M11.out.set 6 _
          have M12 : Hid (Mid w wc g cap mb x u f fb u4.heap.size X [.int .i64 (X / 4096 % 1048576), .bool (allW M (acc ++ [(T, P)])), .bool (allU M (acc ++ [(T, P)])), .bool (allX M (acc ++ [(T, P)])), .bool (bt (X / 256)), .bool false, .bool (bt (X / 64) || x)] (acc.map plA ++ [T * 4096 + 8 * P]) v5) := hcut
          clear hcut M11 lfb leb lab ac0 ac1 ac2
          clear ec0 ec1 ec2 ec3 ec4 ec5 ec6 ec7 ec8 hc0 hf0 hc1 hf1 hc2 hf2 hc3 hf3 hc4 hf4 hc5 hf5 hc6 hf6
          have ec0 : wc.cell? ⟨u4.heap.size, 0, none⟩ = some (.bool true) := M12.out.e.cell 0
          have ec1 : wc.cell? ⟨u4.heap.size, 1, none⟩ = some (.bool (bt (X / 2))) := M12.out.e.cell 1
          have ec2 : wc.cell? ⟨u4.heap.size, 2, none⟩ = some (.bool (bt (X / 4))) := M12.out.e.cell 2
          have ec3 : wc.cell? ⟨u4.heap.size, 3, none⟩ = some (.bool (bt (X / 32))) := M12.out.e.cell 3
          have ec4 : wc.cell? ⟨u4.heap.size, 4, none⟩ = some (.bool (bt (X / 64))) := M12.out.e.cell 4
          have ec5 : wc.cell? ⟨u4.heap.size, 5, none⟩ = some (.bool (bt (X / 128))) := M12.out.e.cell 5
          have ec6 : wc.cell? ⟨u4.heap.size, 6, none⟩ = some (.bool (bt (X / 256))) := M12.out.e.cell 6
          have ec7 : wc.cell? ⟨u4.heap.size, 7, none⟩ = some (.bool (bt (X / 9223372036854775808))) := M12.out.e.cell 7
          have ec8 : wc.cell? ⟨u4.heap.size, 8, none⟩ = some (.int .i64 (X / 4096 % 1048576)) := M12.out.e.cell 8
          have hc0 : wc.cell? ⟨fb, 0, none⟩ = some (.int .i64 (X / 4096 % 1048576)) := M12.out.h.cell 0
          have hf0 : wc.frozen? ⟨fb, 0, none⟩ = false := M12.out.h.free 0
          have hc1 : wc.cell? ⟨fb, 1, none⟩ = some (.bool (allW M (acc ++ [(T, P)]))) := M12.out.h.cell 1
          have hf1 : wc.frozen? ⟨fb, 1, none⟩ = false := M12.out.h.free 1
          have hc2 : wc.cell? ⟨fb, 2, none⟩ = some (.bool (allU M (acc ++ [(T, P)]))) := M12.out.h.cell 2
          have hf2 : wc.frozen? ⟨fb, 2, none⟩ = false := M12.out.h.free 2
          have hc3 : wc.cell? ⟨fb, 3, none⟩ = some (.bool (allX M (acc ++ [(T, P)]))) := M12.out.h.cell 3
          have hf3 : wc.frozen? ⟨fb, 3, none⟩ = false := M12.out.h.free 3
          have hc4 : wc.cell? ⟨fb, 4, none⟩ = some (.bool (bt (X / 256))) := M12.out.h.cell 4
          have hf4 : wc.frozen? ⟨fb, 4, none⟩ = false := M12.out.h.free 4
          have hc5 : wc.cell? ⟨fb, 5, none⟩ = some (.bool false) := M12.out.h.cell 5
          have hf5 : wc.frozen? ⟨fb, 5, none⟩ = false := M12.out.h.free 5
          have hc6 : wc.cell? ⟨fb, 6, none⟩ = some (.bool (bt (X / 64) || x)) := M12.out.h.cell 6
          have hf6 : wc.frozen? ⟨fb, 6, none⟩ = false := M12.out.h.free 6
          have lfb : fb < wc.heap.size := blk_lt M12.out.h
          have leb : u4.heap.size < wc.heap.size := blk_lt M12.out.e
          go_upto_region 29 with fail
          go_cut [] (fun wx => Hid (Mid w wx g cap mb x u f fb u4.heap.size X [.int .i64 (X / 4096 % 1048576), .bool (allW M (acc ++ [(T, P)])), .bool (allU M (acc ++ [(T, P)])), .bool (allX M (acc ++ [(T, P)])), .bool (bt (X / 256)), .bool true, .bool (bt (X / 64) || x)] (acc.map plA ++ [T * 4096 + 8 * P]) v5))
          case first =>
            go_wp2_with fail
            go_meet
            exact M12.out.set 5 _
          have M13 : Hid (Mid w wc g cap mb x u f fb u4.heap.size X [.int .i64 (X / 4096 % 1048576), .bool (allW M (acc ++ [(T, P)])), .bool (allU M (acc ++ [(T, P)])), .bool (allX M (acc ++ [(T, P)])), .bool (bt (X / 256)), .bool true, .bool (bt (X / 64) || x)] (acc.map plA ++ [T * 4096 + 8 * P]) v5) := hcut
          clear hcut M12 lfb leb
          clear ec0 ec1 ec2 ec3 ec4 ec5 ec6 ec7 ec8 hc0 hf0 hc1 hf1 hc2 hf2 hc3 hf3 hc4 hf4 hc5 hf5 hc6 hf6
          have al : 1 ≤ (acc ++ [(T, P)]).length ∧ (acc ++ [(T, P)]).length ≤ 4 := by rw [List.length_append]; simp; omega
          obtain ⟨q1, hq1⟩ : ∃ q, q = pL addr 1 := ⟨_, rfl⟩
          have PC1 : Hid (∀ W : World, Calls Tryd.prog 28 #[.int .u64 addr, .int .i64 12, .int .i64 9] W fun e w' => e = .returned (.int .i64 q1) ∧ w' = W) := fun W => by
            have h := PT.out 12 W (by omega)
            rw [hq1]; exact h
          have qq : 0 ≤ q1 ∧ q1 < 512 := by rw [hq1]; unfold pL; constructor <;> omega
          have qq0 := qq.1
          have qq1 := qq.2
          have hc0 : wc.cell? ⟨fb, 0, none⟩ = some (.int .i64 (X / 4096 % 1048576)) := M13.out.h.cell 0
          have hf0 : wc.frozen? ⟨fb, 0, none⟩ = false := M13.out.h.free 0
          have hc5 : wc.cell? ⟨fb, 5, none⟩ = some (.bool true) := M13.out.h.cell 5
          have lfb : fb < wc.heap.size := blk_lt M13.out.h
          have f0 : 0 ≤ X / 4096 % 1048576 := by omega
          have f1 : X / 4096 % 1048576 < 1048576 := by omega
          have X13 : Hid (∀ U : World, Below w.heap.size wc U → True) := fun _ _ => trivial
          have SX : Hid (∀ U : World, Mid w U g cap mb x u f fb u4.heap.size X [.int .i64 (X / 4096 % 1048576), .bool (allW M (acc ++ [(T, P)])), .bool (allU M (acc ++ [(T, P)])), .bool (allX M (acc ++ [(T, P)])), .bool (bt (X / 256)), .bool true, .bool (bt (X / 64) || x)] (acc.map plA ++ [T * 4096 + 8 * P]) v5 → Lx w (U.setCell ⟨fb, 0, none⟩ (.int .i64 (X / 4096 % 1048576 + q1))) g cap mb x u f fb [.int .i64 (X / 4096 % 1048576 + (if true = true then pL addr 1 else 0)), .bool (allW M (acc ++ [(T, P)])), .bool (allU M (acc ++ [(T, P)])), .bool (allX M (acc ++ [(T, P)])), .bool (bt (X / 256)), .bool true, .bool (bt (X / 64) || x)] (acc ++ [(T, P)]) v5) := fun U h => by
            have := (h.set 0 (.int .i64 (X / 4096 % 1048576 + q1))).out
            rw [hq1] at this ⊢; exact this
          clear hq1 qq X13 HX HP
          go_upto_region 31 with fail
          go_region_with (refine (PC1.out _).mono ?_; rintro e u9 ⟨rfl, rfl⟩)
          all_goals (have hwr : IntKind.i64.wrap (X / 4096 % 1048576 + q1) = X / 4096 % 1048576 + q1 := by simp only [IntKind.wrap_i64]; omega)
          all_goals (rw [hwr])
          all_goals (go_wp2_with fail)
          all_goals (go_meet)
          all_goals exact ⟨acc ++ [(T, P)], X, true, (SX.out _ M13.out).drew, EE, al, HQ⟩
      · have H0 : Hid (hasH 8 [(7, 8)] T = true) := c0
        have EE : Hid (walkW (hasH 8 [(7, 8)]) M root addr x u f = restW (hasH 8 [(7, 8)]) M addr (codeV x u f) x u f L (X / 4096 % 1048576) (acc ++ [(T, P)])) := by
          rw [← HP.out, ← HX.out] at ee; exact hx.out.trans ee
        rw [← HP.out, ← HX.out] at c1 c2 c3
        have C1 : Hid (bt X = true) := c1
        have RC : Hid (∀ W : World, Calls Tryd.prog 32 #[.int .u64 X, .int .i64 ((L : Int) + 1)] W fun e w' => e = .returned (.bool false) ∧ w' = W) := fun W => by
          have h := RS.out X (((L + 1 : Nat)) : Int) W x0 x1
          rw [c2, show (((L + 1 : Nat)) : Int) = ((L : Int) + 1) by omega] at h; exact h
        have C3 : Hid (¬ (L = 0 ∨ (L = 1 ∧ bt (X / 128) = true))) := c3
        clear c0 ee hx c1 c2 c3
        go_wp2_with fail
        refine (HC.out T _ hw.out.bel).mono ?_
        rintro e u2 ⟨rfl, hb⟩
        rw [H0.out]
        have W2 : Hid (Lw w u2 g cap mb x u f fb M acc u12) := hw.out.below hb
        clear hb hw rc0 rc1 rc2
        have rc0 : u2.cell? ⟨w.heap.size, 0, none⟩ = some (.int .i64 8) := W2.out.r.cell 0
        have rc1 : u2.cell? ⟨w.heap.size, 1, none⟩ = some (.slice (some ⟨g, 0, none⟩) 1 cap) := W2.out.r.cell 1
        have rc2 : u2.cell? ⟨w.heap.size, 2, none⟩ = some (.map (some mb)) := W2.out.r.cell 2
        go_wp2_with fail
        refine (PC.out _).mono ?_
        rintro e u2' ⟨rfl, rfl⟩
        go_wp2_with fail
        refine (LC.out _ W2.out.bel).mono ?_
        rintro e u3 ⟨rfl, hb⟩
        have W3 : Hid (Lw w u3 g cap mb x u f fb M acc u12) := W2.out.below hb
        clear hb W2 rc0 rc1 rc2
        go_wp2_with fail
        refine (UC.out _).mono ?_
        rintro e u4 ⟨rfl, hb⟩
        have W4 : Hid (Lw w u4 g cap mb x u f fb M acc u12) := W3.out.below hb
        clear hb W3
        unfold unp
        rw [C1.out]
        have l4' : w.heap.size + 1 < u4.heap.size := blk_lt W4.out.a
        go_wp2_with fail
        refine (RC.out _).mono ?_
        rintro e u4' ⟨rfl, rfl⟩
        obtain ⟨v5, u6, r1, m6⟩ := mid_app X (T * 4096 + 8 * P) (by omega) W4.out
        have M6 : Hid (Mid w u6 g cap mb x u f fb u4.heap.size X [.int .i64 0, .bool (allW M acc), .bool (allU M acc), .bool (allX M acc), .bool false, .bool false, .bool false] (acc.map plA ++ [T * 4096 + 8 * P]) v5) := m6
        clear m6 W4 l4'
        obtain ⟨bw, hbw⟩ : ∃ b, allW M acc = b := ⟨_, rfl⟩
        obtain ⟨bu, hbu⟩ : ∃ b, allU M acc = b := ⟨_, rfl⟩
        obtain ⟨bx, hbx⟩ : ∃ b, allX M acc = b := ⟨_, rfl⟩
        have HBW : Hid (allW M acc = bw) := hbw
        have HBU : Hid (allU M acc = bu) := hbu
        have HBX : Hid (allX M acc = bx) := hbx
        rw [hbw, hbu, hbx] at M6
        clear hbw hbu hbx
        go_upto_region 20 with fail
        go_cut [12] (fun y wx => v5 = y ∧ wx = u6)
        case first =>
          go_wp2_with (at_builtin; refine wpList_appU rfl _ _ 87 rfl u12 (.slice (some ⟨u4.heap.size + 1, 0, none⟩) 1 1) rfl rfl v5 u6 r1 ?_)
          go_meet
          exact ⟨rfl, rfl⟩
        obtain ⟨h12, hwc⟩ := hcut
        subst h12
        subst hwc
        clear r1
        have ec0 : wc.cell? ⟨u4.heap.size, 0, none⟩ = some (.bool true) := M6.out.e.cell 0
        have ec1 : wc.cell? ⟨u4.heap.size, 1, none⟩ = some (.bool (bt (X / 2))) := M6.out.e.cell 1
        have ec2 : wc.cell? ⟨u4.heap.size, 2, none⟩ = some (.bool (bt (X / 4))) := M6.out.e.cell 2
        have ec3 : wc.cell? ⟨u4.heap.size, 3, none⟩ = some (.bool (bt (X / 32))) := M6.out.e.cell 3
        have ec4 : wc.cell? ⟨u4.heap.size, 4, none⟩ = some (.bool (bt (X / 64))) := M6.out.e.cell 4
        have ec5 : wc.cell? ⟨u4.heap.size, 5, none⟩ = some (.bool (bt (X / 128))) := M6.out.e.cell 5
        have ec6 : wc.cell? ⟨u4.heap.size, 6, none⟩ = some (.bool (bt (X / 256))) := M6.out.e.cell 6
        have ec7 : wc.cell? ⟨u4.heap.size, 7, none⟩ = some (.bool (bt (X / 9223372036854775808))) := M6.out.e.cell 7
        have ec8 : wc.cell? ⟨u4.heap.size, 8, none⟩ = some (.int .i64 (X / 4096 % 1048576)) := M6.out.e.cell 8
        have hc0 : wc.cell? ⟨fb, 0, none⟩ = some (.int .i64 0) := M6.out.h.cell 0
        have hf0 : wc.frozen? ⟨fb, 0, none⟩ = false := M6.out.h.free 0
        have hc1 : wc.cell? ⟨fb, 1, none⟩ = some (.bool bw) := M6.out.h.cell 1
        have hf1 : wc.frozen? ⟨fb, 1, none⟩ = false := M6.out.h.free 1
        have hc2 : wc.cell? ⟨fb, 2, none⟩ = some (.bool bu) := M6.out.h.cell 2
        have hf2 : wc.frozen? ⟨fb, 2, none⟩ = false := M6.out.h.free 2
        have hc3 : wc.cell? ⟨fb, 3, none⟩ = some (.bool bx) := M6.out.h.cell 3
        have hf3 : wc.frozen? ⟨fb, 3, none⟩ = false := M6.out.h.free 3
        have hc4 : wc.cell? ⟨fb, 4, none⟩ = some (.bool false) := M6.out.h.cell 4
        have hf4 : wc.frozen? ⟨fb, 4, none⟩ = false := M6.out.h.free 4
        have hc5 : wc.cell? ⟨fb, 5, none⟩ = some (.bool false) := M6.out.h.cell 5
        have hf5 : wc.frozen? ⟨fb, 5, none⟩ = false := M6.out.h.free 5
        have hc6 : wc.cell? ⟨fb, 6, none⟩ = some (.bool false) := M6.out.h.cell 6
        have hf6 : wc.frozen? ⟨fb, 6, none⟩ = false := M6.out.h.free 6
        have lfb : fb < wc.heap.size := blk_lt M6.out.h
        have leb : u4.heap.size < wc.heap.size := blk_lt M6.out.e
        go_upto_region 21 with fail
        go_cut [] (fun wx => Hid (Mid w wx g cap mb x u f fb u4.heap.size X [.int .i64 0, .bool (bw && bt (X / 2)), .bool bu, .bool bx, .bool false, .bool false, .bool false] (acc.map plA ++ [T * 4096 + 8 * P]) v5))
        case first =>
          cases bw
          · skip
            go_wp2_with fail
            go_meet
            exact M6.out.set 1 _
          · skip
            go_wp2_with fail
            go_meet
            exact M6.out.set 1 _
        have M7 : Hid (Mid w wc g cap mb x u f fb u4.heap.size X [.int .i64 0, .bool (bw && bt (X / 2)), .bool bu, .bool bx, .bool false, .bool false, .bool false] (acc.map plA ++ [T * 4096 + 8 * P]) v5) := hcut
        clear hcut M6 lfb leb
        clear ec0 ec1 ec2 ec3 ec4 ec5 ec6 ec7 ec8 hc0 hf0 hc1 hf1 hc2 hf2 hc3 hf3 hc4 hf4 hc5 hf5 hc6 hf6
        have ec0 : wc.cell? ⟨u4.heap.size, 0, none⟩ = some (.bool true) := M7.out.e.cell 0
        have ec1 : wc.cell? ⟨u4.heap.size, 1, none⟩ = some (.bool (bt (X / 2))) := M7.out.e.cell 1
        have ec2 : wc.cell? ⟨u4.heap.size, 2, none⟩ = some (.bool (bt (X / 4))) := M7.out.e.cell 2
        have ec3 : wc.cell? ⟨u4.heap.size, 3, none⟩ = some (.bool (bt (X / 32))) := M7.out.e.cell 3
        have ec4 : wc.cell? ⟨u4.heap.size, 4, none⟩ = some (.bool (bt (X / 64))) := M7.out.e.cell 4
        have ec5 : wc.cell? ⟨u4.heap.size, 5, none⟩ = some (.bool (bt (X / 128))) := M7.out.e.cell 5
        have ec6 : wc.cell? ⟨u4.heap.size, 6, none⟩ = some (.bool (bt (X / 256))) := M7.out.e.cell 6
        have ec7 : wc.cell? ⟨u4.heap.size, 7, none⟩ = some (.bool (bt (X / 9223372036854775808))) := M7.out.e.cell 7
        have ec8 : wc.cell? ⟨u4.heap.size, 8, none⟩ = some (.int .i64 (X / 4096 % 1048576)) := M7.out.e.cell 8
        have hc0 : wc.cell? ⟨fb, 0, none⟩ = some (.int .i64 0) := M7.out.h.cell 0
        have hf0 : wc.frozen? ⟨fb, 0, none⟩ = false := M7.out.h.free 0
        have hc1 : wc.cell? ⟨fb, 1, none⟩ = some (.bool (bw && bt (X / 2))) := M7.out.h.cell 1
        have hf1 : wc.frozen? ⟨fb, 1, none⟩ = false := M7.out.h.free 1
        have hc2 : wc.cell? ⟨fb, 2, none⟩ = some (.bool bu) := M7.out.h.cell 2
        have hf2 : wc.frozen? ⟨fb, 2, none⟩ = false := M7.out.h.free 2
        have hc3 : wc.cell? ⟨fb, 3, none⟩ = some (.bool bx) := M7.out.h.cell 3
        have hf3 : wc.frozen? ⟨fb, 3, none⟩ = false := M7.out.h.free 3
        have hc4 : wc.cell? ⟨fb, 4, none⟩ = some (.bool false) := M7.out.h.cell 4
        have hf4 : wc.frozen? ⟨fb, 4, none⟩ = false := M7.out.h.free 4
        have hc5 : wc.cell? ⟨fb, 5, none⟩ = some (.bool false) := M7.out.h.cell 5
        have hf5 : wc.frozen? ⟨fb, 5, none⟩ = false := M7.out.h.free 5
        have hc6 : wc.cell? ⟨fb, 6, none⟩ = some (.bool false) := M7.out.h.cell 6
        have hf6 : wc.frozen? ⟨fb, 6, none⟩ = false := M7.out.h.free 6
        have lfb : fb < wc.heap.size := blk_lt M7.out.h
        have leb : u4.heap.size < wc.heap.size := blk_lt M7.out.e
        go_upto_region 22 with fail
        go_cut [] (fun wx => Hid (Mid w wx g cap mb x u f fb u4.heap.size X [.int .i64 0, .bool (bw && bt (X / 2)), .bool (bu && bt (X / 4)), .bool bx, .bool false, .bool false, .bool false] (acc.map plA ++ [T * 4096 + 8 * P]) v5))
        case first =>
          cases bu
          · skip
            go_wp2_with fail
            go_meet
            exact M7.out.set 2 _
          · skip
            go_wp2_with fail
            go_meet
            exact M7.out.set 2 _
        have M8 : Hid (Mid w wc g cap mb x u f fb u4.heap.size X [.int .i64 0, .bool (bw && bt (X / 2)), .bool (bu && bt (X / 4)), .bool bx, .bool false, .bool false, .bool false] (acc.map plA ++ [T * 4096 + 8 * P]) v5) := hcut
        clear hcut M7 lfb leb
        clear ec0 ec1 ec2 ec3 ec4 ec5 ec6 ec7 ec8 hc0 hf0 hc1 hf1 hc2 hf2 hc3 hf3 hc4 hf4 hc5 hf5 hc6 hf6
        have ec0 : wc.cell? ⟨u4.heap.size, 0, none⟩ = some (.bool true) := M8.out.e.cell 0
        have ec1 : wc.cell? ⟨u4.heap.size, 1, none⟩ = some (.bool (bt (X / 2))) := M8.out.e.cell 1
        have ec2 : wc.cell? ⟨u4.heap.size, 2, none⟩ = some (.bool (bt (X / 4))) := M8.out.e.cell 2
        have ec3 : wc.cell? ⟨u4.heap.size, 3, none⟩ = some (.bool (bt (X / 32))) := M8.out.e.cell 3
        have ec4 : wc.cell? ⟨u4.heap.size, 4, none⟩ = some (.bool (bt (X / 64))) := M8.out.e.cell 4
        have ec5 : wc.cell? ⟨u4.heap.size, 5, none⟩ = some (.bool (bt (X / 128))) := M8.out.e.cell 5
        have ec6 : wc.cell? ⟨u4.heap.size, 6, none⟩ = some (.bool (bt (X / 256))) := M8.out.e.cell 6
        have ec7 : wc.cell? ⟨u4.heap.size, 7, none⟩ = some (.bool (bt (X / 9223372036854775808))) := M8.out.e.cell 7
        have ec8 : wc.cell? ⟨u4.heap.size, 8, none⟩ = some (.int .i64 (X / 4096 % 1048576)) := M8.out.e.cell 8
        have hc0 : wc.cell? ⟨fb, 0, none⟩ = some (.int .i64 0) := M8.out.h.cell 0
        have hf0 : wc.frozen? ⟨fb, 0, none⟩ = false := M8.out.h.free 0
        have hc1 : wc.cell? ⟨fb, 1, none⟩ = some (.bool (bw && bt (X / 2))) := M8.out.h.cell 1
        have hf1 : wc.frozen? ⟨fb, 1, none⟩ = false := M8.out.h.free 1
        have hc2 : wc.cell? ⟨fb, 2, none⟩ = some (.bool (bu && bt (X / 4))) := M8.out.h.cell 2
        have hf2 : wc.frozen? ⟨fb, 2, none⟩ = false := M8.out.h.free 2
        have hc3 : wc.cell? ⟨fb, 3, none⟩ = some (.bool bx) := M8.out.h.cell 3
        have hf3 : wc.frozen? ⟨fb, 3, none⟩ = false := M8.out.h.free 3
        have hc4 : wc.cell? ⟨fb, 4, none⟩ = some (.bool false) := M8.out.h.cell 4
        have hf4 : wc.frozen? ⟨fb, 4, none⟩ = false := M8.out.h.free 4
        have hc5 : wc.cell? ⟨fb, 5, none⟩ = some (.bool false) := M8.out.h.cell 5
        have hf5 : wc.frozen? ⟨fb, 5, none⟩ = false := M8.out.h.free 5
        have hc6 : wc.cell? ⟨fb, 6, none⟩ = some (.bool false) := M8.out.h.cell 6
        have hf6 : wc.frozen? ⟨fb, 6, none⟩ = false := M8.out.h.free 6
        have lfb : fb < wc.heap.size := blk_lt M8.out.h
        have leb : u4.heap.size < wc.heap.size := blk_lt M8.out.e
        go_upto_region 23 with fail
        go_cut [] (fun wx => Hid (Mid w wx g cap mb x u f fb u4.heap.size X [.int .i64 0, .bool (bw && bt (X / 2)), .bool (bu && bt (X / 4)), .bool (bx && !bt (X / 9223372036854775808)), .bool false, .bool false, .bool false] (acc.map plA ++ [T * 4096 + 8 * P]) v5))
        case first =>
          cases bx
          · skip
            go_wp2_with fail
            go_meet
            exact M8.out.set 3 _
          · skip
            go_wp2_with fail
            go_meet
            exact M8.out.set 3 _
        have M9 : Hid (Mid w wc g cap mb x u f fb u4.heap.size X [.int .i64 0, .bool (bw && bt (X / 2)), .bool (bu && bt (X / 4)), .bool (bx && !bt (X / 9223372036854775808)), .bool false, .bool false, .bool false] (acc.map plA ++ [T * 4096 + 8 * P]) v5) := hcut
        clear hcut M8 lfb leb
        clear ec0 ec1 ec2 ec3 ec4 ec5 ec6 ec7 ec8 hc0 hf0 hc1 hf1 hc2 hf2 hc3 hf3 hc4 hf4 hc5 hf5 hc6 hf6
        have e1 : (bw && bt (X / 2)) = allW M (acc ++ [(T, P)]) := by rw [allW_snoc, HBW.out, ← HX.out]
        have e2 : (bu && bt (X / 4)) = allU M (acc ++ [(T, P)]) := by rw [allU_snoc, HBU.out, ← HX.out]
        have e3 : (bx && !bt (X / 9223372036854775808)) = allX M (acc ++ [(T, P)]) := by rw [allX_snoc, HBX.out, ← HX.out]
        rw [e1, e2, e3] at M9
        clear e1 e2 e3 HBW HBU HBX
        have c3 := C3.out
        have l0 : L ≠ 0 := fun h => c3 (Or.inl h)
        have k1 : ((L : Int) + 1 == 1) = false := by simp; omega
        have k1' : ¬ ((L : Int) + 1 = 1) := by omega
        have W9 : Hid (Lw w wc g cap mb x u f fb M (acc ++ [(T, P)]) v5) := M9.out.lw
        have leb : u4.heap.size < wc.heap.size := blk_lt M9.out.e
        have ec8 : wc.cell? ⟨u4.heap.size, 8, none⟩ = some (.int .i64 (X / 4096 % 1048576)) := M9.out.e.cell 8
        have ec5 : wc.cell? ⟨u4.heap.size, 5, none⟩ = some (.bool (bt (X / 128))) := M9.out.e.cell 5
        have f0 : 0 ≤ X / 4096 % 1048576 := by omega
        have f1 : X / 4096 % 1048576 < 1048576 := by omega
        have EN : Hid (walkW (hasH 8 [(7, 8)]) M root addr x u f = restW (hasH 8 [(7, 8)]) M addr (codeV x u f) x u f (L - 1 + 1) (X / 4096 % 1048576) (acc ++ [(T, P)])) := by rw [show L - 1 + 1 = L by omega]; exact EE.out
        have al : (acc ++ [(T, P)]).length = 3 - (L - 1) := by rw [List.length_append]; simp; omega
        by_cases l1' : L = 1
        · have b7 : bt (X / 128) = false := by
            cases h : bt (X / 128)
            · rfl
            · exact absurd (Or.inr ⟨l1', h⟩) c3
          rw [b7] at ec5
          have k2 : ((L : Int) + 1 == 2) = true := by simp; omega
          have k2' : (L : Int) + 1 = 2 := by omega
          clear c3 C3 EE M9 HX HP b7 k2'
          go_wp2_with fail
          go_roundw
          case rel => exact ⟨L - 1, _, (L : Int), acc ++ [(T, P)], by omega, rfl, by go_num, by omega, ⟨f0, f1⟩, al, W9, EN, HQ⟩
          case measure => simp [intOf]; omega
        · have k2 : ((L : Int) + 1 == 2) = false := by simp; omega
          have k2' : ¬ ((L : Int) + 1 = 2) := by omega
          clear c3 C3 EE M9 HX HP
          go_wp2_with fail
          go_roundw
          case rel => exact ⟨L - 1, _, (L : Int), acc ++ [(T, P)], by omega, rfl, by go_num, by omega, ⟨f0, f1⟩, al, W9, EN, HQ⟩
          case measure => simp [intOf]; omega
end Go.Proofs.YtaebihgegiddnaaDoor
namespace Go.Proofs.YtaebihgegiddnaaDoor
open Go.ChangeShapes Go.WideShapes Go.ChangeAt Go.RowKit Go.Maps
set_option linter.unusedSimpArgs false
set_option linter.unusedVariables false
set_option maxRecDepth 8000

theorem rwalk_any (root addr : Int) (a0 : 0 ≤ addr) (a1 : addr < 18446744073709551616) (x u f : Bool) (g cap mb m : Nat) (M : Int → Int) (hM : ∀ t, 0 ≤ M t ∧ M t < 256) (w : World) (hh : HolesAt w g [(7, 8)]) (hg : g < w.heap.size) (hm : BMem w mb m M) (hm32 : m + 40 < maxLen) :
    Calls Tryd.prog 8 #[.agg #[.int .i64 8, .slice (some ⟨g, 0, none⟩) 1 cap, .map (some mb)], .int .i64 root, .int .u64 addr, .agg #[.bool x, .bool u, .bool f]] w fun e w' =>
      e = .returned (walkW (hasH 8 [(7, 8)]) M root addr x u f).ans ∧ (∃ m', m' ≤ m + 32 ∧ BMem w' mb m' (walkW (hasH 8 [(7, 8)]) M root addr x u f).M) ∧ w.grownBy w' (some mb) := by
  have up : ∀ (e : Ending) (w' : World), (e = .returned (walkW (hasH 8 [(7, 8)]) M root addr x u f).ans ∧ (walkW (hasH 8 [(7, 8)]) M root addr x u f).M = M ∧ Below w.heap.size w w') → e = .returned (walkW (hasH 8 [(7, 8)]) M root addr x u f).ans ∧ (∃ m', m' ≤ m + 32 ∧ BMem w' mb m' (walkW (hasH 8 [(7, 8)]) M root addr x u f).M) ∧ w.grownBy w' (some mb) := by
    rintro e w' ⟨h1, h2, hb⟩
    exact ⟨h1, ⟨m, by omega, by rw [h2]; exact hm.kept (below_g0 hb) (by simp)⟩, hb.os, hb.tape, hb.output, hb.size, fun j hj _ => hb.block j hj⟩
  by_cases c1 : ext addr = addr
  · cases c2 : hasH 8 [(7, 8)] root
    · exact (rwalk_bus root addr a0 a1 x u f g cap mb M w hh hg c1 c2).mono up
    · by_cases he : ∃ acc X lg, walkW (hasH 8 [(7, 8)]) M root addr x u f = endL M addr (codeV x u f) x u f acc X lg
      · exact rwalk_end root addr a0 a1 x u f g cap mb m M hM w hh hg hm hm32 c1 c2 he
      · exact rwalk_no root addr a0 a1 x u f g cap mb m M hM w hh hg hm hm32 c1 c2 (fun acc X lg q => he ⟨acc, X, lg, q⟩)
  · exact (rwalk_arg root addr a0 a1 x u f g cap mb M w c1).mono up
end Go.Proofs.YtaebihgegiddnaaDoor
namespace Go.Proofs.YtaebihgegiddnaaDoor
open Go.ChangeShapes Go.WideShapes Go.ChangeAt Go.RowKit Go.Maps
set_option linter.unusedSimpArgs false
set_option linter.unusedVariables false
set_option maxRecDepth 8000

theorem open_steps_cells : Tryd.prog.cellsOf 36 = 5 := by kernel_rfl
def IsSteps (w : World) (p : Option Addr) (n : Nat) (A : Nat → Sp) : Prop := ∀ i, i < n → ∃ b o, p = some ⟨b, o, none⟩ ∧ b < w.heap.size ∧ w.cell? ⟨b, o + i * 5 + 0, none⟩ = some (.int .i64 (A i).rt) ∧ w.cell? ⟨b, o + i * 5 + 1, none⟩ = some (.int .u64 (A i).ad) ∧ w.cell? ⟨b, o + i * 5 + 2, none⟩ = some (.bool (A i).x) ∧ w.cell? ⟨b, o + i * 5 + 3, none⟩ = some (.bool (A i).u) ∧ w.cell? ⟨b, o + i * 5 + 4, none⟩ = some (.bool (A i).f) ∧ (Lit.int .u64 (A i).ad).wf = true
theorem open_steps {H : Type} {enc : TypeId × Value → H} {W : World} {base : Nat} {sp : Nat → Bool} {held : Bool} {v : Value} {x : DataW H} {ps : List MemPlace} {r : Reach} {b0 : Nat}
    (hv : Value.okWide Tryd.prog W r b0 23 v) (h : DataW.Trod enc Tryd.prog W base sp held 23 v x ps) :
    ∃ (p : Option Addr) (n c : Nat) (A : Nat → Sp), v = .slice p n c ∧ n ≤ maxLen ∧ IsSteps W p n A := by
  obtain ⟨a', l', c', rfl⟩ := okWide_slice Tryd.underlying23 hv
  obtain ⟨fuel, hf⟩ := h
  rcases Go.Deep.open_slice Tryd.underlying23 hf with ⟨e, _⟩ | ⟨a, len, cap, m, k, D, Pl, e, hb, hl, hm, hmm, hx, hel⟩
  · have e' : Value.slice a' l' c' = .slice none 0 0 := (List.cons.inj (show [Value.slice a' l' c'] = [.slice none 0 0] from e)).1
    exact ⟨none, 0, 0, fun _ => ⟨0, 0, false, false, false⟩, e', by omega, fun i hi => absurd hi (Nat.not_lt_zero _)⟩
  · have e' : Value.slice a' l' c' = .slice (some a) len cap := (List.cons.inj (show [Value.slice a' l' c'] = [.slice (some a) len cap] from e)).1
    have hlm : len ≤ m := by rw [hmm]; split <;> omega
    rw [e']
    have each : ∀ i, i < len → ∃ q : Sp, a.spot = none ∧ a.block < W.heap.size ∧ W.cell? ⟨a.block, a.off + i * 5 + 0, none⟩ = some (.int .i64 q.rt) ∧ W.cell? ⟨a.block, a.off + i * 5 + 1, none⟩ = some (.int .u64 q.ad) ∧ W.cell? ⟨a.block, a.off + i * 5 + 2, none⟩ = some (.bool q.x) ∧ W.cell? ⟨a.block, a.off + i * 5 + 3, none⟩ = some (.bool q.u) ∧ W.cell? ⟨a.block, a.off + i * 5 + 4, none⟩ = some (.bool q.f) ∧ (Lit.int .u64 q.ad).wf = true := fun i hi => by
      obtain ⟨cs', h1, h2⟩ := hel i (by omega)
      obtain ⟨c2', h3, _⟩ := hel 0 (by omega)
      rw [open_steps_cells] at h1 h3
      obtain ⟨_, hlen, hcell⟩ := World.cells?_some h1
      obtain ⟨_, hlen3, hcell3⟩ := World.cells?_some h3
      have hspot : a.spot = none := by
        have := hcell3 0 (by omega)
        simpa [Addr.add] using World.cell?_spot (this.trans (List.getElem?_eq_getElem (by omega)))
      obtain ⟨a0, a1, a2, a3, a4, ecs, w0, w1, _⟩ := step_cells h2 (by omega)
      have ad : ∀ j, (a.add (i * 5)).add j = ⟨a.block, a.off + i * 5 + j, none⟩ := fun j => by
        rw [Go.Deep.add_add]
        unfold Addr.add
        by_cases c : i * 5 + j = 0
        · rw [if_pos c]
          have : i * 5 = 0 ∧ j = 0 := by omega
          obtain ⟨bb, oo, ss⟩ := a
          simp only at hspot
          subst hspot
          simp [this.1, this.2]
        · rw [if_neg c]; simp; try omega
      have k0 := hcell 0 (by omega)
      rw [ad, ecs] at k0
      have k1 := hcell 1 (by omega)
      rw [ad, ecs] at k1
      have k2 := hcell 2 (by omega)
      rw [ad, ecs] at k2
      have k3 := hcell 3 (by omega)
      rw [ad, ecs] at k3
      have k4 := hcell 4 (by omega)
      rw [ad, ecs] at k4
      exact ⟨⟨a0, a1, a2, a3, a4⟩, hspot, (lt_of_cell k0 : _), k0, k1, k2, k3, k4, w1⟩
    haveI : Inhabited Sp := ⟨⟨0, 0, false, false, false⟩⟩
    obtain ⟨q, hq⟩ := Go.Deep.choose_lt each
    refine ⟨some a, len, cap, q, rfl, by omega, fun i hi => ?_⟩
    have := hq i hi
    obtain ⟨bb, oo, ss⟩ := a
    obtain ⟨s, l, rest⟩ := this
    simp only at s
    subst s
    exact ⟨bb, oo, rfl, l, rest⟩
theorem IsSteps.below {w w' : World} {p : Option Addr} {n : Nat} {A : Nat → Sp} (h : IsSteps w p n A) (hb : Below w.heap.size w w') : IsSteps w' p n A := fun i hi => by
  obtain ⟨b, o, e, l, c0, c1, c2, c3, c4, wf⟩ := h i hi
  exact ⟨b, o, e, Nat.lt_of_lt_of_le l hb.size, (hb.cell (p := ⟨b, _, none⟩) l).trans c0, (hb.cell (p := ⟨b, _, none⟩) l).trans c1, (hb.cell (p := ⟨b, _, none⟩) l).trans c2, (hb.cell (p := ⟨b, _, none⟩) l).trans c3, (hb.cell (p := ⟨b, _, none⟩) l).trans c4, wf⟩
theorem rest_fault (has : Int → Bool) (M : Int → Int) (addr cd : Int) (x u f : Bool) : ∀ (L : Nat) (T : Int) (acc : List (Int × Int)), 0 ≤ T → T < 1048576 →
    ((restW has M addr cd x u f L T acc).er = 9 → (restW has M addr cd x u f L T acc).fa = addr) ∧ ((restW has M addr cd x u f L T acc).er ≠ 9 → (restW has M addr cd x u f L T acc).fa = 0 ∧ (restW has M addr cd x u f L T acc).fc = 0) := by
  intro L
  induction L with
  | zero => intro T acc _ _; exact ⟨fun h => absurd h (by show (0 : Int) ≠ 9; omega), fun _ => ⟨rfl, rfl⟩⟩
  | succ L ih =>
    intro T acc t0 t1
    rcases rest_step has M addr cd x u f L T acc t0 t1 with ⟨_, ee⟩ | ⟨_, _, ee⟩ | ⟨_, _, _, ee⟩ | ⟨_, _, _, _, ee⟩ | ⟨_, _, _, _, ee⟩
    · rw [ee]; exact ⟨fun h => absurd h (by show (2 : Int) ≠ 9; omega), fun _ => ⟨rfl, rfl⟩⟩
    · rw [ee]; exact ⟨fun _ => rfl, fun h => absurd rfl h⟩
    · rw [ee]; exact ⟨fun _ => rfl, fun h => absurd rfl h⟩
    · rw [ee]; unfold endL
      split
      · exact ⟨fun h => absurd h (by show (0 : Int) ≠ 9; omega), fun _ => ⟨rfl, rfl⟩⟩
      · exact ⟨fun _ => rfl, fun h => absurd rfl h⟩
    · rw [ee]; exact ih _ _ (by omega) (by omega)
theorem walk_fault (M : Int → Int) (root addr : Int) (x u f : Bool) : ((walkW Has8 M root addr x u f).er = 9 → (walkW Has8 M root addr x u f).fa = addr) ∧ ((walkW Has8 M root addr x u f).er ≠ 9 → (walkW Has8 M root addr x u f).fa = 0 ∧ (walkW Has8 M root addr x u f).fc = 0) := by
  by_cases c1 : ext addr = addr
  · cases c2 : Has8 root
    · have e : walkW Has8 M root addr x u f = WR.no M 0 0 2 := by unfold walkW; rw [if_neg (by simp [c1]), if_pos c2]
      rw [e]; exact ⟨fun h => absurd h (by show (2 : Int) ≠ 9; omega), fun _ => ⟨rfl, rfl⟩⟩
    · rw [rest_is Has8 M root addr x u f c1 c2]
      have b := has8_bd root c2
      exact rest_fault _ _ _ _ _ _ _ 4 root [] b.1 b.2
  · have e : walkW Has8 M root addr x u f = WR.no M 0 0 1 := by unfold walkW; rw [if_pos (by simp [c1])]
    rw [e]; exact ⟨fun h => absurd h (by show (1 : Int) ≠ 9; omega), fun _ => ⟨rfl, rfl⟩⟩
theorem neFault (a b a' b' : Int) (W : World) : (binOp .neq 42 (.agg #[.int .u64 a, .int .i64 b]) (.agg #[.int .u64 a', .int .i64 b'])).run Tryd.prog W = .ok (.bool (!(a == a' && b == b'))) W := by
  have := eqFt 9998 a b a' b' W
  simp only [binOp, Op.equal, Sem.run_bind]
  rw [show Op.maxDepth = 9998 + 2 from rfl, this]; rfl
/-- a run of walks -/
def PS (w W : World) (S : List Nat) (rb g mb xb xB k : Nat) : Prop := ∃ (K : Nat → Prop) (M : Int → Int) (n m : Nat), Play w W K S rb 8 [(7, 8)] g 1 mb xb M M n m ∧ n ≤ 80 + 8 * k ∧ m ≤ 320 + 32 * k ∧ K xB ∧ Blk W xB [.int .i64 8, .slice (some ⟨g, 0, none⟩) 1 1, .map (some mb)] 28
/-- the document's walk, beside the program's memory -/
theorem rwalk_play {w W : World} {K : Nat → Prop} {S : List Nat} {rb g cap mbx xb n m : Nat} {M M2 : Int → Int} (h : Play w W K S rb 8 [(7, 8)] g cap mbx xb M M2 n m) (hM : ∀ t, 0 ≤ M2 t ∧ M2 t < 256) (hm : m + 40 < maxLen) (root addr : Int) (a0 : 0 ≤ addr) (a1 : addr < 18446744073709551616) (x u f : Bool) :
    Calls Tryd.prog 8 #[.agg #[.int .i64 8, .slice (some ⟨g, 0, none⟩) 1 cap, .map (some mbx)], .int .i64 root, .int .u64 addr, .agg #[.bool x, .bool u, .bool f]] W fun e w' => e = .returned (walkW Has8 M2 root addr x u f).ans ∧ (∃ m', m' ≤ m + 32 ∧ Play w w' K S rb 8 [(7, 8)] g cap mbx xb M (walkW Has8 M2 root addr x u f).M n m') ∧ W.grownBy w' (some mbx) := by
  refine (rwalk_any root addr a0 a1 x u f g cap mbx m M2 hM W h.ho h.lg h.mem hm).mono ?_
  rintro e w' ⟨he, ⟨m', hl, hb⟩, hg⟩
  exact ⟨he, ⟨m', hl, h.poke hg hb⟩, hg⟩
end Go.Proofs.YtaebihgegiddnaaDoor
