/- The document's Walk: walks that never come to a last entry. -/
import Derived.Test.YtaebihgegiddnaaDoorVC
import Derived.Deep.DeepCutAuto
import Derived.Deep.CutBlock
namespace Go.Proofs.YtaebihgegiddnaaDoor
open Go.ChangeShapes Go.WideShapes Go.ChangeAt Go.RowKit Go.Maps
set_option linter.unusedSimpArgs false
set_option linter.unusedVariables false
set_option maxRecDepth 8000

set_option maxHeartbeats 60000000 in
theorem rwalk_no (root addr : Int) (a0 : 0 ≤ addr) (a1 : addr < 18446744073709551616) (x u f : Bool) (g cap mb m : Nat) (M : Int → Int) (hM : ∀ t, 0 ≤ M t ∧ M t < 256) (w : World) (hh : HolesAt w g [(7, 8)]) (hg : g < w.heap.size) (hm : BMem w mb m M) (hm32 : m + 40 < maxLen) (c1 : ext addr = addr) (c2 : hasH 8 [(7, 8)] root = true) (hne : ∀ acc X lg, walkW (hasH 8 [(7, 8)]) M root addr x u f ≠ endL M addr (codeV x u f) x u f acc X lg) :
    Calls Tryd.prog 8 #[.agg #[.int .i64 8, .slice (some ⟨g, 0, none⟩) 1 cap, .map (some mb)], .int .i64 root, .int .u64 addr, .agg #[.bool x, .bool u, .bool f]] w fun e w' =>
      e = .returned (walkW (hasH 8 [(7, 8)]) M root addr x u f).ans ∧ (∃ m', m' ≤ m + 32 ∧ BMem w' mb m' (walkW (hasH 8 [(7, 8)]) M root addr x u f).M) ∧ w.grownBy w' (some mb) := by
  have HC := rhas_up cap mb hh hg
  have CN := rcanonical_any addr a0 a1
  have CN' : Hid _ := CN
  clear CN
  have e1 : (ext addr == addr) = true := by simp [c1]
  rw [e1] at CN'
  have r0 : 0 ≤ root ∧ root < 1048576 := has8_bd root c2
  have GL : Hid (walkW (hasH 8 [(7, 8)]) M root addr x u f = restW (hasH 8 [(7, 8)]) M addr (codeV x u f) x u f 4 root []) := rest_is _ M root addr x u f c1 c2
  have HR : Hid (hasH 8 [(7, 8)] root = true) := c2
  have CD := rcode_any x u f
  have CD' : Hid _ := CD
  clear CD
  have PT : Hid (∀ (k : Nat) (W : World), k ≤ 48 → Calls Tryd.prog 28 #[.int .u64 addr, .int .i64 (k : Int), .int .i64 9] W fun e w' => e = .returned (.int .i64 (addr / 2 ^ k % 512)) ∧ w' = W) := fun k W hk => part_any addr a0 a1 k 9 (by omega) (by omega) W
  have LD : Hid (∀ (T P : Int) (W : World), 0 ≤ T → T < 1048576 → 0 ≤ P → P < 512 → Below w.heap.size w W → Calls Tryd.prog 29 #[.agg #[.int .i64 8, .slice (some ⟨g, 0, none⟩) 1 cap, .map (some mb)], .int .u64 (T * 4096 + P * 8), .int .i64 8] W fun e w' => e = .returned (.int .u64 (entV M T P)) ∧ Below W.heap.size W w') := fun T P W t0 t1 p0 p1 hb => rload_any 8 _ mb m M _ 8 (by omega) (by omega) (by omega) W (hm.kept (below_g0 hb) (by simp)) rfl hM
  have EB : Hid (∀ T P : Int, 0 ≤ entV M T P ∧ entV M T P < 18446744073709551616) := fun T P => ent_bd hM T P
  have UN : Hid (∀ (X : Int) (W : World), 0 ≤ X → X < 18446744073709551616 → Calls Tryd.prog 30 #[.int .u64 X] W fun e w' => e = .returned (unp X) ∧ Below W.heap.size W w') := fun X W h0 h1 => runpack_any X h0 h1 W
  have RS : Hid (∀ (X l : Int) (W : World), 0 ≤ X → X < 18446744073709551616 → Calls Tryd.prog 32 #[.int .u64 X, .int .i64 l] W fun e w' => e = .returned (.bool (resV X l)) ∧ w' = W) := fun X l W h0 h1 => rreserved_any X l h0 h1 W
  have HM : Hid (∀ t, 0 ≤ M t ∧ M t < 256) := hM
  have BM : Hid (BMem w mb m M) := hm
  have NO : Hid (∀ (a c e : Int), walkW (hasH 8 [(7, 8)]) M root addr x u f = WR.no M a c e → ∀ W : World, Below w.heap.size w W → (∃ m', m' ≤ m + 32 ∧ BMem W mb m' (walkW (hasH 8 [(7, 8)]) M root addr x u f).M) ∧ w.grownBy W (some mb)) := fun a c e h W hb => ⟨⟨m, by omega, by rw [h]; exact hm.kept (below_g0 hb) (by simp)⟩, hb.os, hb.tape, hb.output, hb.size, fun j hj _ => hb.block j hj⟩
  have NE : Hid (∀ acc X lg, walkW (hasH 8 [(7, 8)]) M root addr x u f ≠ endL M addr (codeV x u f) x u f acc X lg) := hne
  clear hne
  clear hh e1 c1 c2 hM hm
  have R0 : Hid (Blk (((w.alloc (.cells #[.int .i64 8, .slice (some ⟨g, 0, none⟩) 1 cap, .map (some mb)] 28)).alloc (.cells #[.bool x, .bool u, .bool f] 34)).alloc (.cells #[.int .i64 0, .bool false, .bool false, .bool false, .bool false, .bool false, .bool false] 47)) w.heap.size [.int .i64 8, .slice (some ⟨g, 0, none⟩) 1 cap, .map (some mb)] 28) := (Blk.made w _ _).below (Go.Joins.below_alloc2 _ _ _)
  have A0 : Hid (Blk (((w.alloc (.cells #[.int .i64 8, .slice (some ⟨g, 0, none⟩) 1 cap, .map (some mb)] 28)).alloc (.cells #[.bool x, .bool u, .bool f] 34)).alloc (.cells #[.int .i64 0, .bool false, .bool false, .bool false, .bool false, .bool false, .bool false] 47)) (w.heap.size + 1) [.bool x, .bool u, .bool f] 34) := by
    have := Blk.made (w.alloc (.cells #[.int .i64 8, .slice (some ⟨g, 0, none⟩) 1 cap, .map (some mb)] 28)) [.bool x, .bool u, .bool f] 34
    rw [World.size_alloc] at this; exact this.below (Go.Joins.below_alloc1 _ _)
  have F0 : Hid (Blk (((w.alloc (.cells #[.int .i64 8, .slice (some ⟨g, 0, none⟩) 1 cap, .map (some mb)] 28)).alloc (.cells #[.bool x, .bool u, .bool f] 34)).alloc (.cells #[.int .i64 0, .bool false, .bool false, .bool false, .bool false, .bool false, .bool false] 47)) (w.heap.size + 1 + 1) [.int .i64 0, .bool false, .bool false, .bool false, .bool false, .bool false, .bool false] 47) := by
    have := Blk.made ((w.alloc (.cells #[.int .i64 8, .slice (some ⟨g, 0, none⟩) 1 cap, .map (some mb)] 28)).alloc (.cells #[.bool x, .bool u, .bool f] 34)) [.int .i64 0, .bool false, .bool false, .bool false, .bool false, .bool false, .bool false] 47
    rw [World.size_alloc, World.size_alloc] at this; exact this
  go_enter Tryd.func8, Tryd.ntmps8
  go_wp2_with fail
  refine (CN'.out _).mono ?_
  rintro e _ ⟨rfl, rfl⟩
  go_wp2_with fail
  refine (HC.out root _ (Go.Joins.below_alloc3 _ _ _ _)).mono ?_
  rintro e u1 ⟨rfl, hb⟩
  rw [HR.out]
  have B1 : Hid (Below w.heap.size w u1) := below_then (Go.Joins.below_alloc3 _ _ _ _) hb
  have R1 : Hid (Blk u1 w.heap.size [.int .i64 8, .slice (some ⟨g, 0, none⟩) 1 cap, .map (some mb)] 28) := R0.out.below hb
  have A1 : Hid (Blk u1 (w.heap.size + 1) [.bool x, .bool u, .bool f] 34) := A0.out.below hb
  have F1 : Hid (Blk u1 (w.heap.size + 1 + 1) [.int .i64 0, .bool false, .bool false, .bool false, .bool false, .bool false, .bool false] 47) := F0.out.below hb
  clear hb R0 A0 F0 CN'
  have lf : Hid (w.heap.size + 1 + 1 < u1.heap.size) := blk_lt F1.out
  go_upto_block 0 with fail
  obtain ⟨fb, hfb⟩ : ∃ fb, fb = u1.heap.size := ⟨_, rfl⟩
  have LF : Hid (w.heap.size + 1 + 1 < fb) := by rw [hfb]; exact lf
  have L0 : Hid (Lw w ((u1.alloc (.cells #[.int .i64 0, .bool true, .bool true, .bool true, .bool false, .bool false, .bool false] 47)).alloc (.cells #[] 32)) g cap mb x u f fb M [] (.slice (some ⟨u1.heap.size + 1, 0, none⟩) 0 0)) := by
    have hb := Go.Joins.below_alloc2 u1 (.cells #[.int .i64 0, .bool true, .bool true, .bool true, .bool false, .bool false, .bool false] 47) (.cells #[] 32)
    refine ⟨below_then B1.out hb, R1.out.below hb, A1.out.below hb, F1.out.below hb, ?_, ?_, LF.out⟩
    · rw [hfb]
      exact (Blk.made u1 [.int .i64 0, .bool true, .bool true, .bool true, .bool false, .bool false, .bool false] 47).below (Go.Joins.below_alloc1 _ _)
    · have := OwnU.made (u1.alloc (.cells #[.int .i64 0, .bool true, .bool true, .bool true, .bool false, .bool false, .bool false] 47)) (base := fb + 1) (by rw [World.size_alloc, hfb]; exact Nat.le_refl _)
      rw [World.size_alloc] at this
      exact this
  rw [← hfb] at L0 ⊢
  clear B1 R1 A1 F1 lf hfb
  go_cut [12] (fun y wr => ∃ (acc : List (Int × Int)) (X : Int) (lg : Bool), Hid (Lx w wr g cap mb x u f fb [.int .i64 (X / 4096 % 1048576 + (if lg = true then pL addr 1 else 0)), .bool (allW M acc), .bool (allU M acc), .bool (allX M acc), .bool (bt (X / 256)), .bool lg, .bool (bt (X / 64) || x)] acc y) ∧ Hid (walkW (hasH 8 [(7, 8)]) M root addr x u f = endL M addr (codeV x u f) x u f acc X lg) ∧ (1 ≤ acc.length ∧ acc.length ≤ 4) ∧ Hid (∀ q ∈ acc, (0 ≤ q.1 ∧ q.1 < 1048576) ∧ (0 ≤ q.2 ∧ q.2 < 512)))
  case first =>
    go_wp2_with fail
    go_loopw [12, 13, 14] (fun y t i wr => ∃ (L : Nat) (T ℓ : Int) (acc : List (Int × Int)), L ≤ 3 ∧ t = .int .i64 T ∧ i = .int .i64 ℓ ∧ ℓ = ((L + 1 : Nat) : Int) ∧ (0 ≤ T ∧ T < 1048576) ∧ acc.length = 3 - L ∧ Hid (Lw w wr g cap mb x u f fb M acc y) ∧ Hid (walkW (hasH 8 [(7, 8)]) M root addr x u f = restW (hasH 8 [(7, 8)]) M addr (codeV x u f) x u f (L + 1) T acc) ∧ Hid (∀ q ∈ acc, (0 ≤ q.1 ∧ q.1 < 1048576) ∧ (0 ≤ q.2 ∧ q.2 < 512))) (fun _ _ i _ => (intOf i).toNat)
    case atStart => exact ⟨3, root, 4, [], by omega, rfl, rfl, rfl, r0, rfl, L0, GL, fun q hq => by cases hq⟩
    case round =>
      obtain ⟨L, T, ℓ, acc, hL, rfl, rfl, hl, hT, ha, hw, hx, hq⟩ := hrel
      have d0 : decide (0 < ℓ) = true := by simp; omega
      have l1 : 1 ≤ ℓ := by omega
      have l4 : ℓ ≤ 4 := by omega
      have t0 := hT.1
      have t1 := hT.2
      obtain ⟨P, hP⟩ : ∃ P, P = pL addr (L + 1) := ⟨_, rfl⟩
      have pb : 0 ≤ P ∧ P < 512 := by rw [hP]; unfold pL; constructor <;> omega
      have p0 := pb.1
      have p1 := pb.2
      have PC : Hid (∀ W : World, Calls Tryd.prog 28 #[.int .u64 addr, .int .i64 (3 + 9 * ((L : Int) + 1)), .int .i64 9] W fun e w' => e = .returned (.int .i64 P) ∧ w' = W) := fun W => by
        have h := PT.out (3 + 9 * (L + 1)) W (by omega)
        rw [show ((3 + 9 * (L + 1) : Nat) : Int) = 3 + 9 * ((L : Int) + 1) by omega] at h
        rw [hP]; exact h
      obtain ⟨X, hX⟩ : ∃ X, X = entV M T P := ⟨_, rfl⟩
      have xb : 0 ≤ X ∧ X < 18446744073709551616 := by rw [hX]; exact EB.out T P
      have LC : Hid (∀ W : World, Below w.heap.size w W → Calls Tryd.prog 29 #[.agg #[.int .i64 8, .slice (some ⟨g, 0, none⟩) 1 cap, .map (some mb)], .int .u64 (T * 4096 + 8 * P), .int .i64 8] W fun e w' => e = .returned (.int .u64 X) ∧ Below W.heap.size W w') := fun W hb => by
        have h := LD.out T P W t0 t1 p0 p1 hb
        rw [hX, show T * 4096 + 8 * P = T * 4096 + P * 8 by omega]; exact h
      have HP : Hid (P = pL addr (L + 1)) := hP
      have HX : Hid (X = entV M T P) := hX
      have x0 := xb.1
      have x1 := xb.2
      have UC : Hid (∀ W : World, Calls Tryd.prog 30 #[.int .u64 X] W fun e w' => e = .returned (unp X) ∧ Below W.heap.size W w') := fun W => UN.out X W xb.1 xb.2
      have HQ : Hid (∀ q ∈ acc ++ [(T, P)], (0 ≤ q.1 ∧ q.1 < 1048576) ∧ (0 ≤ q.2 ∧ q.2 < 512)) := fun q h => by
        rcases List.mem_append.1 h with h | h
        · exact hq.out q h
        · rw [List.mem_singleton.1 h]; exact ⟨⟨t0, t1⟩, p0, p1⟩
      clear hP hX xb pb hT hq L0 GL
      have rc0 : wr.cell? ⟨w.heap.size, 0, none⟩ = some (.int .i64 8) := hw.out.r.cell 0
      have rc1 : wr.cell? ⟨w.heap.size, 1, none⟩ = some (.slice (some ⟨g, 0, none⟩) 1 cap) := hw.out.r.cell 1
      have rc2 : wr.cell? ⟨w.heap.size, 2, none⟩ = some (.map (some mb)) := hw.out.r.cell 2
      rcases rest_step (hasH 8 [(7, 8)]) M addr (codeV x u f) x u f L T acc t0 t1 with ⟨c0, ee⟩ | ⟨c0, c1, ee⟩ | ⟨c0, c1, c2, ee⟩ | ⟨c0, c1, c2, c3, ee⟩ | ⟨c0, c1, c2, c3, ee⟩
      · have H0 : Hid (hasH 8 [(7, 8)] T = false) := c0
        have EE : Hid (walkW (hasH 8 [(7, 8)]) M root addr x u f = WR.no M 0 0 2) := hx.out.trans ee
        clear c0 ee hx
        go_wp2_with fail
        refine (HC.out T _ hw.out.bel).mono ?_
        rintro e u2 ⟨rfl, hb⟩
        rw [H0.out]
        have W2 : Hid (Lw w u2 g cap mb x u f fb M acc u12) := hw.out.below hb
        clear hb hw rc0 rc1 rc2
        have F9 : Hid (Blk u2 (w.heap.size + 1 + 1) [.int .i64 0, .bool false, .bool false, .bool false, .bool false, .bool false, .bool false] 47) := W2.out.z
        have B9 : Hid (Below w.heap.size w u2) := W2.out.bel
        have lf9 : w.heap.size + 1 + 1 < u2.heap.size := blk_lt F9.out
        have qc0 : u2.cell? ⟨(w.heap.size + 1 + 1), 0, none⟩ = some (.int .i64 0) := F9.out.cell 0
        have qf0 : u2.frozen? ⟨(w.heap.size + 1 + 1), 0, none⟩ = false := F9.out.free 0
        have qc1 : u2.cell? ⟨(w.heap.size + 1 + 1), 1, none⟩ = some (.bool false) := F9.out.cell 1
        have qf1 : u2.frozen? ⟨(w.heap.size + 1 + 1), 1, none⟩ = false := F9.out.free 1
        have qc2 : u2.cell? ⟨(w.heap.size + 1 + 1), 2, none⟩ = some (.bool false) := F9.out.cell 2
        have qf2 : u2.frozen? ⟨(w.heap.size + 1 + 1), 2, none⟩ = false := F9.out.free 2
        have qc3 : u2.cell? ⟨(w.heap.size + 1 + 1), 3, none⟩ = some (.bool false) := F9.out.cell 3
        have qf3 : u2.frozen? ⟨(w.heap.size + 1 + 1), 3, none⟩ = false := F9.out.free 3
        have qc4 : u2.cell? ⟨(w.heap.size + 1 + 1), 4, none⟩ = some (.bool false) := F9.out.cell 4
        have qf4 : u2.frozen? ⟨(w.heap.size + 1 + 1), 4, none⟩ = false := F9.out.free 4
        have qc5 : u2.cell? ⟨(w.heap.size + 1 + 1), 5, none⟩ = some (.bool false) := F9.out.cell 5
        have qf5 : u2.frozen? ⟨(w.heap.size + 1 + 1), 5, none⟩ = false := F9.out.free 5
        have qc6 : u2.cell? ⟨(w.heap.size + 1 + 1), 6, none⟩ = some (.bool false) := F9.out.cell 6
        have qf6 : u2.frozen? ⟨(w.heap.size + 1 + 1), 6, none⟩ = false := F9.out.free 6
        go_wp2_with fail
        change bodyPost _ _ _ _ _ (World.setCells u2 (w.heap.size + 1 + 1) 0 [.int .i64 0, .bool false, .bool false, .bool false, .bool false, .bool false, .bool false])
        have hr := run_loadVar_mid (P := Tryd.prog) (World.setCells u2 (w.heap.size + 1 + 1) 0 [.int .i64 0, .bool false, .bool false, .bool false, .bool false, .bool false, .bool false]) (w.heap.size + 1 + 1) 0 47 [.int .i64 0, .bool false, .bool false, .bool false, .bool false, .bool false, .bool false] _ (World.rangeAt_setCells_same _ (w.heap.size + 1 + 1) 0 [.int .i64 0, .bool false, .bool false, .bool false, .bool false, .bool false, .bool false] (show World.there u2 (w.heap.size + 1 + 1) 0 7 from F9.out.there)) Tryd.underlying47 rfl rf_info
        refine bodyPost_ret (v := .tuple #[.agg #[.int .i64 0, .bool false, .bool false, .bool false, .bool false, .bool false, .bool false], .int .i64 0, .int .i64 2]) ?_ rfl ⟨by rw [EE.out]; first | rfl | (simp [WR.no]; omega), NO.out _ _ _ EE.out _ (below_scs8 B9.out (by omega) _ _)⟩
        exact results_three8 Tryd.results8 _ _ _ _ _ _ _ rfl rfl rfl hr
      · have H0 : Hid (hasH 8 [(7, 8)] T = true) := c0
        have EE : Hid (walkW (hasH 8 [(7, 8)]) M root addr x u f = WR.no M addr (codeV x u f) 9) := hx.out.trans ee
        rw [← HP.out, ← HX.out] at c1
        have C1 : Hid (bt X = false) := c1
        clear c0 ee hx c1
        go_wp2_with fail
        refine (HC.out T _ hw.out.bel).mono ?_
        rintro e u2 ⟨rfl, hb⟩
        rw [H0.out]
        have W2 : Hid (Lw w u2 g cap mb x u f fb M acc u12) := hw.out.below hb
        clear hb hw rc0 rc1 rc2
        have rc0 : u2.cell? ⟨w.heap.size, 0, none⟩ = some (.int .i64 8) := W2.out.r.cell 0
        have rc1 : u2.cell? ⟨w.heap.size, 1, none⟩ = some (.slice (some ⟨g, 0, none⟩) 1 cap) := W2.out.r.cell 1
        have rc2 : u2.cell? ⟨w.heap.size, 2, none⟩ = some (.map (some mb)) := W2.out.r.cell 2
        go_wp2_with fail
        refine (PC.out _).mono ?_
        rintro e u2' ⟨rfl, rfl⟩
        go_wp2_with fail
        refine (LC.out _ W2.out.bel).mono ?_
        rintro e u3 ⟨rfl, hb⟩
        have W3 : Hid (Lw w u3 g cap mb x u f fb M acc u12) := W2.out.below hb
        clear hb W2 rc0 rc1 rc2
        go_wp2_with fail
        refine (UC.out _).mono ?_
        rintro e u4 ⟨rfl, hb⟩
        have W4 : Hid (Lw w u4 g cap mb x u f fb M acc u12) := W3.out.below hb
        clear hb W3
        unfold unp
        rw [C1.out]
        have ac0 : u4.cell? ⟨w.heap.size + 1, 0, none⟩ = some (.bool x) := W4.out.a.cell 0
        have ac1 : u4.cell? ⟨w.heap.size + 1, 1, none⟩ = some (.bool u) := W4.out.a.cell 1
        have ac2 : u4.cell? ⟨w.heap.size + 1, 2, none⟩ = some (.bool f) := W4.out.a.cell 2
        have la : w.heap.size + 1 < u4.heap.size := blk_lt W4.out.a
        go_wp2_with fail
        refine (CD'.out _).mono ?_
        rintro e u5 ⟨rfl, hb⟩
        have W5 : Hid (Lw w u5 g cap mb x u f fb M acc u12) := (W4.out.below (Go.Joins.below_alloc1 _ _)).below hb
        clear hb W4 ac0 ac1 ac2 la
        have F9 : Hid (Blk u5 (w.heap.size + 1 + 1) [.int .i64 0, .bool false, .bool false, .bool false, .bool false, .bool false, .bool false] 47) := W5.out.z
        have B9 : Hid (Below w.heap.size w u5) := W5.out.bel
        have lf9 : w.heap.size + 1 + 1 < u5.heap.size := blk_lt F9.out
        have qc0 : u5.cell? ⟨(w.heap.size + 1 + 1), 0, none⟩ = some (.int .i64 0) := F9.out.cell 0
        have qf0 : u5.frozen? ⟨(w.heap.size + 1 + 1), 0, none⟩ = false := F9.out.free 0
        have qc1 : u5.cell? ⟨(w.heap.size + 1 + 1), 1, none⟩ = some (.bool false) := F9.out.cell 1
        have qf1 : u5.frozen? ⟨(w.heap.size + 1 + 1), 1, none⟩ = false := F9.out.free 1
        have qc2 : u5.cell? ⟨(w.heap.size + 1 + 1), 2, none⟩ = some (.bool false) := F9.out.cell 2
        have qf2 : u5.frozen? ⟨(w.heap.size + 1 + 1), 2, none⟩ = false := F9.out.free 2
        have qc3 : u5.cell? ⟨(w.heap.size + 1 + 1), 3, none⟩ = some (.bool false) := F9.out.cell 3
        have qf3 : u5.frozen? ⟨(w.heap.size + 1 + 1), 3, none⟩ = false := F9.out.free 3
        have qc4 : u5.cell? ⟨(w.heap.size + 1 + 1), 4, none⟩ = some (.bool false) := F9.out.cell 4
        have qf4 : u5.frozen? ⟨(w.heap.size + 1 + 1), 4, none⟩ = false := F9.out.free 4
        have qc5 : u5.cell? ⟨(w.heap.size + 1 + 1), 5, none⟩ = some (.bool false) := F9.out.cell 5
        have qf5 : u5.frozen? ⟨(w.heap.size + 1 + 1), 5, none⟩ = false := F9.out.free 5
        have qc6 : u5.cell? ⟨(w.heap.size + 1 + 1), 6, none⟩ = some (.bool false) := F9.out.cell 6
        have qf6 : u5.frozen? ⟨(w.heap.size + 1 + 1), 6, none⟩ = false := F9.out.free 6
        go_wp2_with fail
        change bodyPost _ _ _ _ _ (World.setCells u5 (w.heap.size + 1 + 1) 0 [.int .i64 0, .bool false, .bool false, .bool false, .bool false, .bool false, .bool false])
        have hr := run_loadVar_mid (P := Tryd.prog) (World.setCells u5 (w.heap.size + 1 + 1) 0 [.int .i64 0, .bool false, .bool false, .bool false, .bool false, .bool false, .bool false]) (w.heap.size + 1 + 1) 0 47 [.int .i64 0, .bool false, .bool false, .bool false, .bool false, .bool false, .bool false] _ (World.rangeAt_setCells_same _ (w.heap.size + 1 + 1) 0 [.int .i64 0, .bool false, .bool false, .bool false, .bool false, .bool false, .bool false] (show World.there u5 (w.heap.size + 1 + 1) 0 7 from F9.out.there)) Tryd.underlying47 rfl rf_info
        refine bodyPost_ret (v := .tuple #[.agg #[.int .i64 0, .bool false, .bool false, .bool false, .bool false, .bool false, .bool false], .int .i64 (codeV x u f), .int .i64 9]) ?_ rfl ⟨by rw [EE.out]; first | rfl | (simp [WR.no]; omega), NO.out _ _ _ EE.out _ (below_scs8 B9.out (by omega) _ _)⟩
        exact results_three8 Tryd.results8 _ _ _ _ _ _ _ rfl rfl rfl hr
      · have H0 : Hid (hasH 8 [(7, 8)] T = true) := c0
        have EE : Hid (walkW (hasH 8 [(7, 8)]) M root addr x u f = WR.no M addr (codeV x u f + 9) 9) := hx.out.trans ee
        rw [← HP.out, ← HX.out] at c1 c2
        have C1 : Hid (bt X = true) := c1
        have RC : Hid (∀ W : World, Calls Tryd.prog 32 #[.int .u64 X, .int .i64 ((L : Int) + 1)] W fun e w' => e = .returned (.bool true) ∧ w' = W) := fun W => by
          have h := RS.out X (((L + 1 : Nat)) : Int) W x0 x1
          rw [c2, show (((L + 1 : Nat)) : Int) = ((L : Int) + 1) by omega] at h; exact h
        clear c0 ee hx c1 c2
        go_wp2_with fail
        refine (HC.out T _ hw.out.bel).mono ?_
        rintro e u2 ⟨rfl, hb⟩
        rw [H0.out]
        have W2 : Hid (Lw w u2 g cap mb x u f fb M acc u12) := hw.out.below hb
        clear hb hw rc0 rc1 rc2
        have rc0 : u2.cell? ⟨w.heap.size, 0, none⟩ = some (.int .i64 8) := W2.out.r.cell 0
        have rc1 : u2.cell? ⟨w.heap.size, 1, none⟩ = some (.slice (some ⟨g, 0, none⟩) 1 cap) := W2.out.r.cell 1
        have rc2 : u2.cell? ⟨w.heap.size, 2, none⟩ = some (.map (some mb)) := W2.out.r.cell 2
        go_wp2_with fail
        refine (PC.out _).mono ?_
        rintro e u2' ⟨rfl, rfl⟩
        go_wp2_with fail
        refine (LC.out _ W2.out.bel).mono ?_
        rintro e u3 ⟨rfl, hb⟩
        have W3 : Hid (Lw w u3 g cap mb x u f fb M acc u12) := W2.out.below hb
        clear hb W2 rc0 rc1 rc2
        go_wp2_with fail
        refine (UC.out _).mono ?_
        rintro e u4 ⟨rfl, hb⟩
        have W4 : Hid (Lw w u4 g cap mb x u f fb M acc u12) := W3.out.below hb
        clear hb W3
        unfold unp
        rw [C1.out]
        have ac0 : u4.cell? ⟨w.heap.size + 1, 0, none⟩ = some (.bool x) := W4.out.a.cell 0
        have ac1 : u4.cell? ⟨w.heap.size + 1, 1, none⟩ = some (.bool u) := W4.out.a.cell 1
        have ac2 : u4.cell? ⟨w.heap.size + 1, 2, none⟩ = some (.bool f) := W4.out.a.cell 2
        have la : w.heap.size + 1 < u4.heap.size := blk_lt W4.out.a
        go_wp2_with fail
        refine (RC.out _).mono ?_
        rintro e u4' ⟨rfl, rfl⟩
        go_wp2_with fail
        refine (CD'.out _).mono ?_
        rintro e u5 ⟨rfl, hb⟩
        have W5 : Hid (Lw w u5 g cap mb x u f fb M acc u12) := (W4.out.below (Go.Joins.below_alloc1 _ _)).below hb
        clear hb W4 ac0 ac1 ac2 la
        have cb := code_bd x u f
        have cb0 := cb.1
        have cb1 := cb.2
        have F9 : Hid (Blk u5 (w.heap.size + 1 + 1) [.int .i64 0, .bool false, .bool false, .bool false, .bool false, .bool false, .bool false] 47) := W5.out.z
        have B9 : Hid (Below w.heap.size w u5) := W5.out.bel
        have lf9 : w.heap.size + 1 + 1 < u5.heap.size := blk_lt F9.out
        have qc0 : u5.cell? ⟨(w.heap.size + 1 + 1), 0, none⟩ = some (.int .i64 0) := F9.out.cell 0
        have qf0 : u5.frozen? ⟨(w.heap.size + 1 + 1), 0, none⟩ = false := F9.out.free 0
        have qc1 : u5.cell? ⟨(w.heap.size + 1 + 1), 1, none⟩ = some (.bool false) := F9.out.cell 1
        have qf1 : u5.frozen? ⟨(w.heap.size + 1 + 1), 1, none⟩ = false := F9.out.free 1
        have qc2 : u5.cell? ⟨(w.heap.size + 1 + 1), 2, none⟩ = some (.bool false) := F9.out.cell 2
        have qf2 : u5.frozen? ⟨(w.heap.size + 1 + 1), 2, none⟩ = false := F9.out.free 2
        have qc3 : u5.cell? ⟨(w.heap.size + 1 + 1), 3, none⟩ = some (.bool false) := F9.out.cell 3
        have qf3 : u5.frozen? ⟨(w.heap.size + 1 + 1), 3, none⟩ = false := F9.out.free 3
        have qc4 : u5.cell? ⟨(w.heap.size + 1 + 1), 4, none⟩ = some (.bool false) := F9.out.cell 4
        have qf4 : u5.frozen? ⟨(w.heap.size + 1 + 1), 4, none⟩ = false := F9.out.free 4
        have qc5 : u5.cell? ⟨(w.heap.size + 1 + 1), 5, none⟩ = some (.bool false) := F9.out.cell 5
        have qf5 : u5.frozen? ⟨(w.heap.size + 1 + 1), 5, none⟩ = false := F9.out.free 5
        have qc6 : u5.cell? ⟨(w.heap.size + 1 + 1), 6, none⟩ = some (.bool false) := F9.out.cell 6
        have qf6 : u5.frozen? ⟨(w.heap.size + 1 + 1), 6, none⟩ = false := F9.out.free 6
        go_wp2_with fail
        change bodyPost _ _ _ _ _ (World.setCells u5 (w.heap.size + 1 + 1) 0 [.int .i64 0, .bool false, .bool false, .bool false, .bool false, .bool false, .bool false])
        have hr := run_loadVar_mid (P := Tryd.prog) (World.setCells u5 (w.heap.size + 1 + 1) 0 [.int .i64 0, .bool false, .bool false, .bool false, .bool false, .bool false, .bool false]) (w.heap.size + 1 + 1) 0 47 [.int .i64 0, .bool false, .bool false, .bool false, .bool false, .bool false, .bool false] _ (World.rangeAt_setCells_same _ (w.heap.size + 1 + 1) 0 [.int .i64 0, .bool false, .bool false, .bool false, .bool false, .bool false, .bool false] (show World.there u5 (w.heap.size + 1 + 1) 0 7 from F9.out.there)) Tryd.underlying47 rfl rf_info
        refine bodyPost_ret (v := .tuple #[.agg #[.int .i64 0, .bool false, .bool false, .bool false, .bool false, .bool false, .bool false], .int .i64 (9 + codeV x u f), .int .i64 9]) ?_ rfl ⟨by rw [EE.out]; first | rfl | (simp [WR.no]; omega), NO.out _ _ _ EE.out _ (below_scs8 B9.out (by omega) _ _)⟩
        exact results_three8 Tryd.results8 _ _ _ _ _ _ _ rfl rfl rfl hr
      · exact absurd (hx.out.trans ee) (NE.out _ _ _)
      · have H0 : Hid (hasH 8 [(7, 8)] T = true) := c0
        have EE : Hid (walkW (hasH 8 [(7, 8)]) M root addr x u f = restW (hasH 8 [(7, 8)]) M addr (codeV x u f) x u f L (X / 4096 % 1048576) (acc ++ [(T, P)])) := by
          rw [← HP.out, ← HX.out] at ee; exact hx.out.trans ee
        rw [← HP.out, ← HX.out] at c1 c2 c3
        have C1 : Hid (bt X = true) := c1
        have RC : Hid (∀ W : World, Calls Tryd.prog 32 #[.int .u64 X, .int .i64 ((L : Int) + 1)] W fun e w' => e = .returned (.bool false) ∧ w' = W) := fun W => by
          have h := RS.out X (((L + 1 : Nat)) : Int) W x0 x1
          rw [c2, show (((L + 1 : Nat)) : Int) = ((L : Int) + 1) by omega] at h; exact h
        have C3 : Hid (¬ (L = 0 ∨ (L = 1 ∧ bt (X / 128) = true))) := c3
        clear c0 ee hx c1 c2 c3
        go_wp2_with fail
        refine (HC.out T _ hw.out.bel).mono ?_
        rintro e u2 ⟨rfl, hb⟩
        rw [H0.out]
        have W2 : Hid (Lw w u2 g cap mb x u f fb M acc u12) := hw.out.below hb
        clear hb hw rc0 rc1 rc2
        have rc0 : u2.cell? ⟨w.heap.size, 0, none⟩ = some (.int .i64 8) := W2.out.r.cell 0
        have rc1 : u2.cell? ⟨w.heap.size, 1, none⟩ = some (.slice (some ⟨g, 0, none⟩) 1 cap) := W2.out.r.cell 1
        have rc2 : u2.cell? ⟨w.heap.size, 2, none⟩ = some (.map (some mb)) := W2.out.r.cell 2
        go_wp2_with fail
        refine (PC.out _).mono ?_
        rintro e u2' ⟨rfl, rfl⟩
        go_wp2_with fail
        refine (LC.out _ W2.out.bel).mono ?_
        rintro e u3 ⟨rfl, hb⟩
        have W3 : Hid (Lw w u3 g cap mb x u f fb M acc u12) := W2.out.below hb
        clear hb W2 rc0 rc1 rc2
        go_wp2_with fail
        refine (UC.out _).mono ?_
        rintro e u4 ⟨rfl, hb⟩
        have W4 : Hid (Lw w u4 g cap mb x u f fb M acc u12) := W3.out.below hb
        clear hb W3
        unfold unp
        rw [C1.out]
        have l4' : w.heap.size + 1 < u4.heap.size := blk_lt W4.out.a
        go_wp2_with fail
        refine (RC.out _).mono ?_
        rintro e u4' ⟨rfl, rfl⟩
        obtain ⟨v5, u6, r1, m6⟩ := mid_app X (T * 4096 + 8 * P) (by omega) W4.out
        have M6 : Hid (Mid w u6 g cap mb x u f fb u4.heap.size X [.int .i64 0, .bool (allW M acc), .bool (allU M acc), .bool (allX M acc), .bool false, .bool false, .bool false] (acc.map plA ++ [T * 4096 + 8 * P]) v5) := m6
        clear m6 W4 l4'
        obtain ⟨bw, hbw⟩ : ∃ b, allW M acc = b := ⟨_, rfl⟩
        obtain ⟨bu, hbu⟩ : ∃ b, allU M acc = b := ⟨_, rfl⟩
        obtain ⟨bx, hbx⟩ : ∃ b, allX M acc = b := ⟨_, rfl⟩
        have HBW : Hid (allW M acc = bw) := hbw
        have HBU : Hid (allU M acc = bu) := hbu
        have HBX : Hid (allX M acc = bx) := hbx
        rw [hbw, hbu, hbx] at M6
        clear hbw hbu hbx
        go_upto_region 20 with fail
        go_cut [12] (fun y wx => v5 = y ∧ wx = u6)
        case first =>
          go_wp2_with (at_builtin; refine wpList_appU rfl _ _ 87 rfl u12 (.slice (some ⟨u4.heap.size + 1, 0, none⟩) 1 1) rfl rfl v5 u6 r1 ?_)
          go_meet
          exact ⟨rfl, rfl⟩
        obtain ⟨h12, hwc⟩ := hcut
        subst h12
        subst hwc
        clear r1
        have ec0 : wc.cell? ⟨u4.heap.size, 0, none⟩ = some (.bool true) := M6.out.e.cell 0
        have ec1 : wc.cell? ⟨u4.heap.size, 1, none⟩ = some (.bool (bt (X / 2))) := M6.out.e.cell 1
        have ec2 : wc.cell? ⟨u4.heap.size, 2, none⟩ = some (.bool (bt (X / 4))) := M6.out.e.cell 2
        have ec3 : wc.cell? ⟨u4.heap.size, 3, none⟩ = some (.bool (bt (X / 32))) := M6.out.e.cell 3
        have ec4 : wc.cell? ⟨u4.heap.size, 4, none⟩ = some (.bool (bt (X / 64))) := M6.out.e.cell 4
        have ec5 : wc.cell? ⟨u4.heap.size, 5, none⟩ = some (.bool (bt (X / 128))) := M6.out.e.cell 5
        have ec6 : wc.cell? ⟨u4.heap.size, 6, none⟩ = some (.bool (bt (X / 256))) := M6.out.e.cell 6
        have ec7 : wc.cell? ⟨u4.heap.size, 7, none⟩ = some (.bool (bt (X / 9223372036854775808))) := M6.out.e.cell 7
        have ec8 : wc.cell? ⟨u4.heap.size, 8, none⟩ = some (.int .i64 (X / 4096 % 1048576)) := M6.out.e.cell 8
        have hc0 : wc.cell? ⟨fb, 0, none⟩ = some (.int .i64 0) := M6.out.h.cell 0
        have hf0 : wc.frozen? ⟨fb, 0, none⟩ = false := M6.out.h.free 0
        have hc1 : wc.cell? ⟨fb, 1, none⟩ = some (.bool bw) := M6.out.h.cell 1
        have hf1 : wc.frozen? ⟨fb, 1, none⟩ = false := M6.out.h.free 1
        have hc2 : wc.cell? ⟨fb, 2, none⟩ = some (.bool bu) := M6.out.h.cell 2
        have hf2 : wc.frozen? ⟨fb, 2, none⟩ = false := M6.out.h.free 2
        have hc3 : wc.cell? ⟨fb, 3, none⟩ = some (.bool bx) := M6.out.h.cell 3
        have hf3 : wc.frozen? ⟨fb, 3, none⟩ = false := M6.out.h.free 3
        have hc4 : wc.cell? ⟨fb, 4, none⟩ = some (.bool false) := M6.out.h.cell 4
        have hf4 : wc.frozen? ⟨fb, 4, none⟩ = false := M6.out.h.free 4
        have hc5 : wc.cell? ⟨fb, 5, none⟩ = some (.bool false) := M6.out.h.cell 5
        have hf5 : wc.frozen? ⟨fb, 5, none⟩ = false := M6.out.h.free 5
        have hc6 : wc.cell? ⟨fb, 6, none⟩ = some (.bool false) := M6.out.h.cell 6
        have hf6 : wc.frozen? ⟨fb, 6, none⟩ = false := M6.out.h.free 6
        have lfb : fb < wc.heap.size := blk_lt M6.out.h
        have leb : u4.heap.size < wc.heap.size := blk_lt M6.out.e
        go_upto_region 21 with fail
        go_cut [] (fun wx => Hid (Mid w wx g cap mb x u f fb u4.heap.size X [.int .i64 0, .bool (bw && bt (X / 2)), .bool bu, .bool bx, .bool false, .bool false, .bool false] (acc.map plA ++ [T * 4096 + 8 * P]) v5))
        case first =>
          cases bw
          · skip
            go_wp2_with fail
            go_meet
            exact M6.out.set 1 _
          · skip
            go_wp2_with fail
            go_meet
            exact M6.out.set 1 _
        have M7 : Hid (Mid w wc g cap mb x u f fb u4.heap.size X [.int .i64 0, .bool (bw && bt (X / 2)), .bool bu, .bool bx, .bool false, .bool false, .bool false] (acc.map plA ++ [T * 4096 + 8 * P]) v5) := hcut
        clear hcut M6 lfb leb
        clear ec0 ec1 ec2 ec3 ec4 ec5 ec6 ec7 ec8 hc0 hf0 hc1 hf1 hc2 hf2 hc3 hf3 hc4 hf4 hc5 hf5 hc6 hf6
        have ec0 : wc.cell? ⟨u4.heap.size, 0, none⟩ = some (.bool true) := M7.out.e.cell 0
        have ec1 : wc.cell? ⟨u4.heap.size, 1, none⟩ = some (.bool (bt (X / 2))) := M7.out.e.cell 1
        have ec2 : wc.cell? ⟨u4.heap.size, 2, none⟩ = some (.bool (bt (X / 4))) := M7.out.e.cell 2
        have ec3 : wc.cell? ⟨u4.heap.size, 3, none⟩ = some (.bool (bt (X / 32))) := M7.out.e.cell 3
        have ec4 : wc.cell? ⟨u4.heap.size, 4, none⟩ = some (.bool (bt (X / 64))) := M7.out.e.cell 4
        have ec5 : wc.cell? ⟨u4.heap.size, 5, none⟩ = some (.bool (bt (X / 128))) := M7.out.e.cell 5
        have ec6 : wc.cell? ⟨u4.heap.size, 6, none⟩ = some (.bool (bt (X / 256))) := M7.out.e.cell 6
        have ec7 : wc.cell? ⟨u4.heap.size, 7, none⟩ = some (.bool (bt (X / 9223372036854775808))) := M7.out.e.cell 7
        have ec8 : wc.cell? ⟨u4.heap.size, 8, none⟩ = some (.int .i64 (X / 4096 % 1048576)) := M7.out.e.cell 8
        have hc0 : wc.cell? ⟨fb, 0, none⟩ = some (.int .i64 0) := M7.out.h.cell 0
        have hf0 : wc.frozen? ⟨fb, 0, none⟩ = false := M7.out.h.free 0
        have hc1 : wc.cell? ⟨fb, 1, none⟩ = some (.bool (bw && bt (X / 2))) := M7.out.h.cell 1
        have hf1 : wc.frozen? ⟨fb, 1, none⟩ = false := M7.out.h.free 1
        have hc2 : wc.cell? ⟨fb, 2, none⟩ = some (.bool bu) := M7.out.h.cell 2
        have hf2 : wc.frozen? ⟨fb, 2, none⟩ = false := M7.out.h.free 2
        have hc3 : wc.cell? ⟨fb, 3, none⟩ = some (.bool bx) := M7.out.h.cell 3
        have hf3 : wc.frozen? ⟨fb, 3, none⟩ = false := M7.out.h.free 3
        have hc4 : wc.cell? ⟨fb, 4, none⟩ = some (.bool false) := M7.out.h.cell 4
        have hf4 : wc.frozen? ⟨fb, 4, none⟩ = false := M7.out.h.free 4
        have hc5 : wc.cell? ⟨fb, 5, none⟩ = some (.bool false) := M7.out.h.cell 5
        have hf5 : wc.frozen? ⟨fb, 5, none⟩ = false := M7.out.h.free 5
        have hc6 : wc.cell? ⟨fb, 6, none⟩ = some (.bool false) := M7.out.h.cell 6
        have hf6 : wc.frozen? ⟨fb, 6, none⟩ = false := M7.out.h.free 6
        have lfb : fb < wc.heap.size := blk_lt M7.out.h
        have leb : u4.heap.size < wc.heap.size := blk_lt M7.out.e
        go_upto_region 22 with fail
        go_cut [] (fun wx => Hid (Mid w wx g cap mb x u f fb u4.heap.size X [.int .i64 0, .bool (bw && bt (X / 2)), .bool (bu && bt (X / 4)), .bool bx, .bool false, .bool false, .bool false] (acc.map plA ++ [T * 4096 + 8 * P]) v5))
        case first =>
          cases bu
          · skip
            go_wp2_with fail
            go_meet
            exact M7.out.set 2 _
          · skip
            go_wp2_with fail
            go_meet
            exact M7.out.set 2 _
        have M8 : Hid (Mid w wc g cap mb x u f fb u4.heap.size X [.int .i64 0, .bool (bw && bt (X / 2)), .bool (bu && bt (X / 4)), .bool bx, .bool false, .bool false, .bool false] (acc.map plA ++ [T * 4096 + 8 * P]) v5) := hcut
        clear hcut M7 lfb leb
        clear ec0 ec1 ec2 ec3 ec4 ec5 ec6 ec7 ec8 hc0 hf0 hc1 hf1 hc2 hf2 hc3 hf3 hc4 hf4 hc5 hf5 hc6 hf6
        have ec0 : wc.cell? ⟨u4.heap.size, 0, none⟩ = some (.bool true) := M8.out.e.cell 0
        have ec1 : wc.cell? ⟨u4.heap.size, 1, none⟩ = some (.bool (bt (X / 2))) := M8.out.e.cell 1
        have ec2 : wc.cell? ⟨u4.heap.size, 2, none⟩ = some (.bool (bt (X / 4))) := M8.out.e.cell 2
        have ec3 : wc.cell? ⟨u4.heap.size, 3, none⟩ = some (.bool (bt (X / 32))) := M8.out.e.cell 3
        have ec4 : wc.cell? ⟨u4.heap.size, 4, none⟩ = some (.bool (bt (X / 64))) := M8.out.e.cell 4
        have ec5 : wc.cell? ⟨u4.heap.size, 5, none⟩ = some (.bool (bt (X / 128))) := M8.out.e.cell 5
        have ec6 : wc.cell? ⟨u4.heap.size, 6, none⟩ = some (.bool (bt (X / 256))) := M8.out.e.cell 6
        have ec7 : wc.cell? ⟨u4.heap.size, 7, none⟩ = some (.bool (bt (X / 9223372036854775808))) := M8.out.e.cell 7
        have ec8 : wc.cell? ⟨u4.heap.size, 8, none⟩ = some (.int .i64 (X / 4096 % 1048576)) := M8.out.e.cell 8
        have hc0 : wc.cell? ⟨fb, 0, none⟩ = some (.int .i64 0) := M8.out.h.cell 0
        have hf0 : wc.frozen? ⟨fb, 0, none⟩ = false := M8.out.h.free 0
        have hc1 : wc.cell? ⟨fb, 1, none⟩ = some (.bool (bw && bt (X / 2))) := M8.out.h.cell 1
        have hf1 : wc.frozen? ⟨fb, 1, none⟩ = false := M8.out.h.free 1
        have hc2 : wc.cell? ⟨fb, 2, none⟩ = some (.bool (bu && bt (X / 4))) := M8.out.h.cell 2
        have hf2 : wc.frozen? ⟨fb, 2, none⟩ = false := M8.out.h.free 2
        have hc3 : wc.cell? ⟨fb, 3, none⟩ = some (.bool bx) := M8.out.h.cell 3
        have hf3 : wc.frozen? ⟨fb, 3, none⟩ = false := M8.out.h.free 3
        have hc4 : wc.cell? ⟨fb, 4, none⟩ = some (.bool false) := M8.out.h.cell 4
        have hf4 : wc.frozen? ⟨fb, 4, none⟩ = false := M8.out.h.free 4
        have hc5 : wc.cell? ⟨fb, 5, none⟩ = some (.bool false) := M8.out.h.cell 5
        have hf5 : wc.frozen? ⟨fb, 5, none⟩ = false := M8.out.h.free 5
        have hc6 : wc.cell? ⟨fb, 6, none⟩ = some (.bool false) := M8.out.h.cell 6
        have hf6 : wc.frozen? ⟨fb, 6, none⟩ = false := M8.out.h.free 6
        have lfb : fb < wc.heap.size := blk_lt M8.out.h
        have leb : u4.heap.size < wc.heap.size := blk_lt M8.out.e
        go_upto_region 23 with fail
        go_cut [] (fun wx => Hid (Mid w wx g cap mb x u f fb u4.heap.size X [.int .i64 0, .bool (bw && bt (X / 2)), .bool (bu && bt (X / 4)), .bool (bx && !bt (X / 9223372036854775808)), .bool false, .bool false, .bool false] (acc.map plA ++ [T * 4096 + 8 * P]) v5))
        case first =>
          cases bx
          · skip
            go_wp2_with fail
            go_meet
            exact M8.out.set 3 _
          · skip
            go_wp2_with fail
            go_meet
            exact M8.out.set 3 _
        have M9 : Hid (Mid w wc g cap mb x u f fb u4.heap.size X [.int .i64 0, .bool (bw && bt (X / 2)), .bool (bu && bt (X / 4)), .bool (bx && !bt (X / 9223372036854775808)), .bool false, .bool false, .bool false] (acc.map plA ++ [T * 4096 + 8 * P]) v5) := hcut
        clear hcut M8 lfb leb
        clear ec0 ec1 ec2 ec3 ec4 ec5 ec6 ec7 ec8 hc0 hf0 hc1 hf1 hc2 hf2 hc3 hf3 hc4 hf4 hc5 hf5 hc6 hf6
        have e1 : (bw && bt (X / 2)) = allW M (acc ++ [(T, P)]) := by rw [allW_snoc, HBW.out, ← HX.out]
        have e2 : (bu && bt (X / 4)) = allU M (acc ++ [(T, P)]) := by rw [allU_snoc, HBU.out, ← HX.out]
        have e3 : (bx && !bt (X / 9223372036854775808)) = allX M (acc ++ [(T, P)]) := by rw [allX_snoc, HBX.out, ← HX.out]
        rw [e1, e2, e3] at M9
        clear e1 e2 e3 HBW HBU HBX
        have c3 := C3.out
        have l0 : L ≠ 0 := fun h => c3 (Or.inl h)
        have k1 : ((L : Int) + 1 == 1) = false := by simp; omega
        have k1' : ¬ ((L : Int) + 1 = 1) := by omega
        have W9 : Hid (Lw w wc g cap mb x u f fb M (acc ++ [(T, P)]) v5) := M9.out.lw
        have leb : u4.heap.size < wc.heap.size := blk_lt M9.out.e
        have ec8 : wc.cell? ⟨u4.heap.size, 8, none⟩ = some (.int .i64 (X / 4096 % 1048576)) := M9.out.e.cell 8
        have ec5 : wc.cell? ⟨u4.heap.size, 5, none⟩ = some (.bool (bt (X / 128))) := M9.out.e.cell 5
        have f0 : 0 ≤ X / 4096 % 1048576 := by omega
        have f1 : X / 4096 % 1048576 < 1048576 := by omega
        have EN : Hid (walkW (hasH 8 [(7, 8)]) M root addr x u f = restW (hasH 8 [(7, 8)]) M addr (codeV x u f) x u f (L - 1 + 1) (X / 4096 % 1048576) (acc ++ [(T, P)])) := by rw [show L - 1 + 1 = L by omega]; exact EE.out
        have al : (acc ++ [(T, P)]).length = 3 - (L - 1) := by rw [List.length_append]; simp; omega
        by_cases l1' : L = 1
        · have b7 : bt (X / 128) = false := by
            cases h : bt (X / 128)
            · rfl
            · exact absurd (Or.inr ⟨l1', h⟩) c3
          rw [b7] at ec5
          have k2 : ((L : Int) + 1 == 2) = true := by simp; omega
          have k2' : (L : Int) + 1 = 2 := by omega
          clear c3 C3 EE M9 HX HP b7 k2'
          go_wp2_with fail
          go_roundw
          case rel => exact ⟨L - 1, _, (L : Int), acc ++ [(T, P)], by omega, rfl, by go_num, by omega, ⟨f0, f1⟩, al, W9, EN, HQ⟩
          case measure => simp [intOf]; omega
        · have k2 : ((L : Int) + 1 == 2) = false := by simp; omega
          have k2' : ¬ ((L : Int) + 1 = 2) := by omega
          clear c3 C3 EE M9 HX HP
          go_wp2_with fail
          go_roundw
          case rel => exact ⟨L - 1, _, (L : Int), acc ++ [(T, P)], by omega, rfl, by go_num, by omega, ⟨f0, f1⟩, al, W9, EN, HQ⟩
          case measure => simp [intOf]; omega
  clear L0 GL
  obtain ⟨acc, X, lg, _, hx, _, _⟩ := hcut
  exact absurd hx.out (NE.out _ _ _)
end Go.Proofs.YtaebihgegiddnaaDoor
