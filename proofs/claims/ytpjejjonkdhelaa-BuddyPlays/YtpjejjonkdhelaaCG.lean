/- The document's buddy: Take. -/
import Derived.Test.YtpjejjonkdhelaaCF
namespace Go.Proofs.Ytpjejjonkdhelaa
open Go.ChangeShapes Go.WideShapes Go.ChangeAt Go.RowKit Go.Maps
set_option linter.unusedSimpArgs false
set_option linter.unusedVariables false
set_option maxRecDepth 8000

theorem wanted_mp {c : Prop} [Decidable c] {a b : Prop} (h : c) (ha : a) : if c then a else b := by rw [if_pos h]; exact ha
theorem res2s {V : World} {rb : Nat} {a b : Value} (x y : Value) (H : Blk V rb [a, b] 35) : (loadVar 35 ⟨rb, 0, none⟩).run Try.prog (V.setCells rb 0 [x, y]) = .ok (.agg #[x, y]) (V.setCells rb 0 [x, y]) ∧ Kf (fun j => j = rb) V (V.setCells rb 0 [x, y]) := res2 x y H
theorem lst_first {w : World} {lo : Nat} {base : Nat} {v : Value} {L : List Int} (O : w.ownsRow base 3 1 v L.length (L.map (Value.int .i64))) (hl : 0 < L.length) : ∃ g c, v = .slice (some ⟨g, 0, none⟩) L.length c ∧ base ≤ g ∧ g < w.heap.size ∧ w.cell? ⟨g, 0, none⟩ = some (.int .i64 L[0]) := by
  obtain ⟨p, c, hv, r⟩ := lst_row O
  obtain ⟨g, e, lg, hc⟩ := r 0 hl
  subst e
  exact ⟨g, c, hv, (row_lt O g (by rw [hv]; rfl)).1, lg, hc⟩
theorem app_rowB2 (base : Nat) (v : Value) (L : List (Int × Int)) (x : Int × Int) (hL : L.length ≤ 1048576) (w : World) (h : OB w base v L) (hb : base ≤ w.heap.size) :
    ∃ v' W2, (Builtin.append_ #[33, 33] 33 #[v, .slice (some ⟨w.heap.size, 0, none⟩) 1 1]).run Try.prog (w.alloc (.cells #[.int .i64 x.1, .int .i64 x.2] 75)) = .ok v' W2 ∧ OB W2 base v' (L ++ [x]) ∧ (w.alloc (.cells #[.int .i64 x.1, .int .i64 x.2] 75)).grownBy W2 v.ownBlock ∧ (v'.ownBlock = v.ownBlock ∨ v'.ownBlock = some (w.heap.size + 1)) := by
  obtain ⟨i0, hi, hz0, hz1, hz2⟩ := infoB
  have O0 : OB (w.alloc (.cells #[.int .i64 x.1, .int .i64 x.2] 75)) base v L := row_keep h (fun g e => (Go.Joins.below_alloc1 w (.cells #[.int .i64 x.1, .int .i64 x.2] 75)).block g (row_lt h g e).2)
  obtain ⟨v', W2, r, ho, hg, _, hat⟩ := run_append_own_at (P := Try.prog) (w.alloc (.cells #[.int .i64 x.1, .int .i64 x.2] 75)) base 33 33 75 i0 (.agg #[.int .i64 0, .int .i64 0]) 2 16 Try.underlying33 hi hz0 hz1 hz2 rfl (by decide) v L.length (cellsOf L) O0
    ⟨w.heap.size, 0, none⟩ 1 1 [.int .i64 x.1, .int .i64 x.2] rfl (fun j u hu => by
      rw [Addr.add_mid, Nat.zero_add, Go.Joins.cell_of_block (own1 w _)]
      simpa using hu) (fun u hu => by
      simp at hu
      rcases hu with rfl | rfl <;> rfl) (by unfold maxLen; omega) (by omega) (by rw [World.size_alloc]; omega)
  rw [World.size_alloc] at hat
  refine ⟨v', W2, r, ?_, hg, hat⟩
  show W2.ownsRow base 75 2 v' (L ++ [x]).length (cellsOf (L ++ [x]))
  rw [List.length_append, cells_app]; exact ho
theorem rtake_no (fb n cf : Nat) (pg : Option Addr) (ll cg : Nat) (x : Int) (hx : ¬ (0 ≤ x ∧ x ≤ 10)) (w : World) :
    Calls Try.prog 16 #[.agg #[.slice (some ⟨fb, 0, none⟩) n cf, .slice pg ll cg], .int .i64 x] w fun e w' => e = .returned (.tuple #[.agg #[.slice (some ⟨fb, 0, none⟩) n cf, .slice pg ll cg], .int .i64 0, .int .i64 1]) ∧ Below w.heap.size w w' := by
  have A1 : Below w.heap.size w (w.alloc (.cells #[.slice (some ⟨fb, 0, none⟩) n cf, .slice pg ll cg] 35)) := Go.Joins.below_alloc1 _ _
  have A2 : Below (w.alloc (.cells #[.slice (some ⟨fb, 0, none⟩) n cf, .slice pg ll cg] 35)).heap.size (w.alloc (.cells #[.slice (some ⟨fb, 0, none⟩) n cf, .slice pg ll cg] 35)) ((w.alloc (.cells #[.slice (some ⟨fb, 0, none⟩) n cf, .slice pg ll cg] 35)).alloc (.cells #[.slice none 0 0, .slice none 0 0] 35)) := Go.Joins.below_alloc1 _ _
  obtain ⟨sx, hsx⟩ : ∃ sx, w.heap.size = sx := ⟨_, rfl⟩
  have s1 : (w.alloc (.cells #[.slice (some ⟨fb, 0, none⟩) n cf, .slice pg ll cg] 35)).heap.size = sx + 1 := by rw [World.size_alloc, hsx]
  have SXB : Blk ((w.alloc (.cells #[.slice (some ⟨fb, 0, none⟩) n cf, .slice pg ll cg] 35)).alloc (.cells #[.slice none 0 0, .slice none 0 0] 35)) sx [.slice (some ⟨fb, 0, none⟩) n cf, .slice pg ll cg] 35 := by
    have h : Blk (w.alloc (.cells #[.slice (some ⟨fb, 0, none⟩) n cf, .slice pg ll cg] 35)) w.heap.size [.slice (some ⟨fb, 0, none⟩) n cf, .slice pg ll cg] 35 := own1 w _
    rw [hsx] at h
    exact h.below A2
  have RBB : Blk ((w.alloc (.cells #[.slice (some ⟨fb, 0, none⟩) n cf, .slice pg ll cg] 35)).alloc (.cells #[.slice none 0 0, .slice none 0 0] 35)) (sx + 1) [.slice none 0 0, .slice none 0 0] 35 := by
    have h : Blk ((w.alloc (.cells #[.slice (some ⟨fb, 0, none⟩) n cf, .slice pg ll cg] 35)).alloc (.cells #[.slice none 0 0, .slice none 0 0] 35)) (w.alloc (.cells #[.slice (some ⟨fb, 0, none⟩) n cf, .slice pg ll cg] 35)).heap.size [.slice none 0 0, .slice none 0 0] 35 := own1 _ _
    rw [s1] at h
    exact h
  have BW : Hid (Below w.heap.size w ((w.alloc (.cells #[.slice (some ⟨fb, 0, none⟩) n cf, .slice pg ll cg] 35)).alloc (.cells #[.slice none 0 0, .slice none 0 0] 35))) := below_then A1 A2
  have HSX : Hid (w.heap.size = sx) := hsx
  by_cases x0 : x < 0
  · have e0 : decide (x < 0) = true := by simp [x0]
    clear A1 A2 s1 hx
    go_enter Try.func16, Try.ntmps16
    go_upto_region 1 with fail
    generalize ((w.alloc (.cells #[.slice (some ⟨fb, 0, none⟩) n cf, .slice pg ll cg] 35)).alloc (.cells #[.slice none 0 0, .slice none 0 0] 35)) = w2 at *
    obtain ⟨hr, kf⟩ := res2 (.slice (some ⟨fb, 0, none⟩) n cf) (.slice pg ll cg) RBB
    have HR2 : Hid _ := hr
    have HK : Hid _ := kf
    have sc0 : w2.cell? ⟨sx, 0, none⟩ = some (.slice (some ⟨fb, 0, none⟩) n cf) := SXB.cell 0
    have sc1 : w2.cell? ⟨sx, 1, none⟩ = some (.slice pg ll cg) := SXB.cell 1
    have rc0 : w2.cell? ⟨sx + 1, 0, none⟩ = some (.slice none 0 0) := RBB.cell 0
    have rc1 : w2.cell? ⟨sx + 1, 1, none⟩ = some (.slice none 0 0) := RBB.cell 1
    have rf0 : w2.frozen? ⟨sx + 1, 0, none⟩ = false := RBB.free 0
    have rf1 : w2.frozen? ⟨sx + 1, 1, none⟩ = false := RBB.free 1
    have lsx : sx < w2.heap.size := blk_lt SXB
    have lrx : sx + 1 < w2.heap.size := blk_lt RBB
    clear SXB RBB hr kf hsx
    go_wp2_with fail
    refine bodyPost_ret (v := .tuple #[.agg #[.slice (some ⟨fb, 0, none⟩) n cf, .slice pg ll cg], .int .i64 0, .int .i64 1]) (results_tri Try.results16 _ _ _ _ _ _ _ rfl rfl rfl HR2.out) rfl ?_
    have hw := HSX.out
    exact ⟨rfl, BW.out.trans ⟨HK.out.os, HK.out.tape, HK.out.output, HK.out.size, fun j hj => HK.out.block j (Nat.lt_of_lt_of_le hj BW.out.size) (by omega)⟩⟩
  · have e0 : decide (x < 0) = false := by simp; omega
    have e1 : decide (10 < x) = true := by simp; omega
    clear A1 A2 s1 hx
    go_enter Try.func16, Try.ntmps16
    go_upto_region 1 with fail
    generalize ((w.alloc (.cells #[.slice (some ⟨fb, 0, none⟩) n cf, .slice pg ll cg] 35)).alloc (.cells #[.slice none 0 0, .slice none 0 0] 35)) = w2 at *
    obtain ⟨hr, kf⟩ := res2 (.slice (some ⟨fb, 0, none⟩) n cf) (.slice pg ll cg) RBB
    have HR2 : Hid _ := hr
    have HK : Hid _ := kf
    have sc0 : w2.cell? ⟨sx, 0, none⟩ = some (.slice (some ⟨fb, 0, none⟩) n cf) := SXB.cell 0
    have sc1 : w2.cell? ⟨sx, 1, none⟩ = some (.slice pg ll cg) := SXB.cell 1
    have rc0 : w2.cell? ⟨sx + 1, 0, none⟩ = some (.slice none 0 0) := RBB.cell 0
    have rc1 : w2.cell? ⟨sx + 1, 1, none⟩ = some (.slice none 0 0) := RBB.cell 1
    have rf0 : w2.frozen? ⟨sx + 1, 0, none⟩ = false := RBB.free 0
    have rf1 : w2.frozen? ⟨sx + 1, 1, none⟩ = false := RBB.free 1
    have lsx : sx < w2.heap.size := blk_lt SXB
    have lrx : sx + 1 < w2.heap.size := blk_lt RBB
    clear SXB RBB hr kf hsx
    go_wp2_with fail
    refine bodyPost_ret (v := .tuple #[.agg #[.slice (some ⟨fb, 0, none⟩) n cf, .slice pg ll cg], .int .i64 0, .int .i64 1]) (results_tri Try.results16 _ _ _ _ _ _ _ rfl rfl rfl HR2.out) rfl ?_
    have hw := HSX.out
    exact ⟨rfl, BW.out.trans ⟨HK.out.os, HK.out.tape, HK.out.output, HK.out.size, fun j hj => HK.out.block j (Nat.lt_of_lt_of_le hj BW.out.size) (by omega)⟩⟩
set_option maxHeartbeats 8000000 in
theorem rtake_any (fb n cf lo en : Nat) (pg : Option Addr) (ll cg od : Nat) (hod : od ≤ 10) (L : List (Int × Int)) (hll : ll = L.length) (l9 : ll ≤ 100000) (F : Nat → Prop) (hF : ∀ i, F i → i < n) (hn : n = en * 1024) (n9 : n ≤ 6144) (w : World) (hS : Sn w fb n F) (hL : LB w lo (.slice pg ll cg) L) (fl : fb < lo) :
    Calls Try.prog 16 #[.agg #[.slice (some ⟨fb, 0, none⟩) n cf, .slice pg ll cg], .int .i64 od] w fun e w' => (e = .returned (.tuple #[.agg #[.slice (some ⟨fb, 0, none⟩) n cf, .slice pg ll cg], .int .i64 0, .int .i64 7]) ∧ (∀ k q, od ≤ k → k ≤ 10 → ¬ cnN F k q) ∧ Below w.heap.size w w') ∨
      ∃ p f q d v', e = .returned (.tuple #[.agg #[.slice (some ⟨fb, 0, none⟩) n cf, v'], .int .i64 (p * 2 ^ od : Nat), .int .i64 0]) ∧ Took F od p f q d ∧ Sn w' fb n (fun y => F y ∧ ¬ y / 2 ^ od = p) ∧ LB w' w.heap.size v' (insP (((p * 2 ^ od : Nat) : Int), (od : Int)) L) ∧ Kf (fun j => j = fb) w w' := by
  have HLL : Hid (ll = L.length) := hll
  have RD : Hid (∀ i (hi : i < L.length), ∃ g, pg = some ⟨g, 0, none⟩ ∧ lo ≤ g ∧ g < w.heap.size ∧ w.cell? ⟨g, i * 2, none⟩ = some (.int .i64 L[i].1) ∧ w.cell? ⟨g, i * 2 + 1, none⟩ = some (.int .i64 L[i].2)) := by
    obtain ⟨p', c', e, r⟩ := hL
    have e1 := (Value.slice.inj e).1
    subst e1
    exact r
  have HF : Hid (∀ i, F i → i < n) := hF
  have HN : Hid (n = en * 1024) := hn
  obtain ⟨m, hm, m1, m2, wA, wB⟩ := pw_facts hod
  have HM : Hid (m = 2 ^ od) := hm
  have lfw := hS.lt
  obtain ⟨sx, hsx⟩ : ∃ sx, w.heap.size = sx := ⟨_, rfl⟩
  have A1 : Below w.heap.size w (w.alloc (.cells #[.slice (some ⟨fb, 0, none⟩) n cf, .slice pg ll cg] 35)) := Go.Joins.below_alloc1 _ _
  have A2 : Below (w.alloc (.cells #[.slice (some ⟨fb, 0, none⟩) n cf, .slice pg ll cg] 35)).heap.size (w.alloc (.cells #[.slice (some ⟨fb, 0, none⟩) n cf, .slice pg ll cg] 35)) ((w.alloc (.cells #[.slice (some ⟨fb, 0, none⟩) n cf, .slice pg ll cg] 35)).alloc (.cells #[.slice none 0 0, .slice none 0 0] 35)) := Go.Joins.below_alloc1 _ _
  have s1 : (w.alloc (.cells #[.slice (some ⟨fb, 0, none⟩) n cf, .slice pg ll cg] 35)).heap.size = sx + 1 := by rw [World.size_alloc, hsx]
  have s2 : ((w.alloc (.cells #[.slice (some ⟨fb, 0, none⟩) n cf, .slice pg ll cg] 35)).alloc (.cells #[.slice none 0 0, .slice none 0 0] 35)).heap.size = sx + 2 := by rw [World.size_alloc, s1]
  have SXB : Hid (Blk ((w.alloc (.cells #[.slice (some ⟨fb, 0, none⟩) n cf, .slice pg ll cg] 35)).alloc (.cells #[.slice none 0 0, .slice none 0 0] 35)) sx [.slice (some ⟨fb, 0, none⟩) n cf, .slice pg ll cg] 35) := by
    have h : Blk (w.alloc (.cells #[.slice (some ⟨fb, 0, none⟩) n cf, .slice pg ll cg] 35)) w.heap.size [.slice (some ⟨fb, 0, none⟩) n cf, .slice pg ll cg] 35 := own1 w _
    rw [hsx] at h
    exact h.below A2
  have RBB : Hid (Blk ((w.alloc (.cells #[.slice (some ⟨fb, 0, none⟩) n cf, .slice pg ll cg] 35)).alloc (.cells #[.slice none 0 0, .slice none 0 0] 35)) (sx + 1) [.slice none 0 0, .slice none 0 0] 35) := by
    have h : Blk ((w.alloc (.cells #[.slice (some ⟨fb, 0, none⟩) n cf, .slice pg ll cg] 35)).alloc (.cells #[.slice none 0 0, .slice none 0 0] 35)) (w.alloc (.cells #[.slice (some ⟨fb, 0, none⟩) n cf, .slice pg ll cg] 35)).heap.size [.slice none 0 0, .slice none 0 0] 35 := own1 _ _
    rw [s1] at h
    exact h
  have BW : Hid (Below w.heap.size w ((w.alloc (.cells #[.slice (some ⟨fb, 0, none⟩) n cf, .slice pg ll cg] 35)).alloc (.cells #[.slice none 0 0, .slice none 0 0] 35))) := below_then A1 A2
  have SN0 : Hid (Sn ((w.alloc (.cells #[.slice (some ⟨fb, 0, none⟩) n cf, .slice pg ll cg] 35)).alloc (.cells #[.slice none 0 0, .slice none 0 0] 35)) fb n F) := hS.block (BW.out.block fb lfw)
  have HSX : Hid (w.heap.size = sx) := hsx
  have ofb : fb < sx := by omega
  have W2S : Hid (((w.alloc (.cells #[.slice (some ⟨fb, 0, none⟩) n cf, .slice pg ll cg] 35)).alloc (.cells #[.slice none 0 0, .slice none 0 0] 35)).heap.size = sx + 2) := s2
  have e0 : decide ((od : Int) < 0) = false := by simp
  have e1 : decide ((10 : Int) < (od : Int)) = false := by simp; omega
  clear hll hL hF hn hm hS A1 A2 s1 s2 lfw
  go_enter Try.func16, Try.ntmps16
  go_upto_region 1 with fail
  generalize ((w.alloc (.cells #[.slice (some ⟨fb, 0, none⟩) n cf, .slice pg ll cg] 35)).alloc (.cells #[.slice none 0 0, .slice none 0 0] 35)) = w2 at *
  clear hsx
  have CC : Hid (∀ W, Below w2.heap.size w2 W → Blk W sx [.slice (some ⟨fb, 0, none⟩) n cf, .slice pg ll cg] 35 ∧ Blk W (sx + 1) [.slice none 0 0, .slice none 0 0] 35 ∧ Sn W fb n F) := fun W b => ⟨SXB.out.below b, RBB.out.below b, SN0.out.block (b.block fb SN0.out.lt)⟩
  go_wp2_with fail
  go_loopw [7, 8, 9, 10, 11, 13] (fun v7 _ _ _ _ _ W => ∃ k : Nat, od ≤ k ∧ k ≤ 11 ∧ v7 = .int .i64 k ∧ Hid (Below w2.heap.size w2 W) ∧ Hid (∀ k' q, od ≤ k' → k' < k → ¬ cnN F k' q)) (fun v7 _ _ _ _ _ _ => 11 - (Go.RowKit.intOf v7).toNat)
  case atStart => exact ⟨od, Nat.le_refl _, by omega, rfl, Below.refl _ _, fun k' q h1 h2 => by omega⟩
  case round =>
    obtain ⟨k, k1, k2, rfl, hb, hno⟩ := hrel
    obtain ⟨bs, br, hSn⟩ := CC.out _ hb.out
    have sc0 : wr.cell? ⟨sx, 0, none⟩ = some (.slice (some ⟨fb, 0, none⟩) n cf) := bs.cell 0
    have sc1 : wr.cell? ⟨sx, 1, none⟩ = some (.slice pg ll cg) := bs.cell 1
    have lsx : sx < wr.heap.size := blk_lt bs
    by_cases ck : k ≤ 10
    rotate_left
    · obtain rfl : k = 11 := by omega
      have rc0 : wr.cell? ⟨sx + 1, 0, none⟩ = some (.slice none 0 0) := br.cell 0
      have rc1 : wr.cell? ⟨sx + 1, 1, none⟩ = some (.slice none 0 0) := br.cell 1
      have rf0 : wr.frozen? ⟨sx + 1, 0, none⟩ = false := br.free 0
      have rf1 : wr.frozen? ⟨sx + 1, 1, none⟩ = false := br.free 1
      have lrx : sx + 1 < wr.heap.size := blk_lt br
      obtain ⟨hr, kf⟩ := res2 (.slice (some ⟨fb, 0, none⟩) n cf) (.slice pg ll cg) br
      have HR2 : Hid _ := hr
      have HK : Hid _ := kf
      clear bs br hSn hr kf ck
      go_wp2_with fail
      refine bodyPost_ret (v := .tuple #[.agg #[.slice (some ⟨fb, 0, none⟩) n cf, .slice pg ll cg], .int .i64 0, .int .i64 7]) (results_tri Try.results16 _ _ _ _ _ _ _ rfl rfl rfl HR2.out) rfl ?_
      have hw := HSX.out
      have b1 : Below w.heap.size w wr := BW.out.trans (hb.out.mono BW.out.size)
      exact Or.inl ⟨rfl, fun k q h1 h2 => hno.out k q h1 (by omega), b1.trans ⟨HK.out.os, HK.out.tape, HK.out.output, HK.out.size, fun j hj => HK.out.block j (Nat.lt_of_lt_of_le hj b1.size) (by omega)⟩⟩
    have d1 : decide ((k : Int) ≤ 10) = true := by simp; omega
    have BC : Hid (Calls Try.prog 36 #[.agg #[.slice (some ⟨fb, 0, none⟩) n cf, .slice pg ll cg], .int .i64 k] wr fun e w' => ∃ (v : Value) (L0 : List Int), e = .returned v ∧ Asc L0 ∧ (∀ x, x ∈ L0 ↔ can F k x) ∧ w'.ownsRow wr.heap.size 3 1 v L0.length (L0.map (Value.int .i64)) ∧ Below wr.heap.size wr w') := rblocks_any fb n cf (.slice pg ll cg) k en ck F HF.out HN.out n9 wr hSn
    clear bs br hSn
    go_wp2_with fail
    refine Calls.mono BC.out ?_
    rintro e u1 ⟨v8, L0, rfl, aL, mL, oL, hb2⟩
    have B2 : Hid (Below w2.heap.size w2 u1) := hb.out.trans (hb2.mono hb.out.size)
    by_cases l0 : 0 < L0.length
    rotate_left
    · have e8 : L0 = [] := by cases L0 with | nil => rfl | cons y r => simp at l0
      subst e8
      obtain ⟨p8, c8, hv8, _⟩ := lst_row oL
      subst hv8
      have NO : Hid (∀ k' q, od ≤ k' → k' < k + 1 → ¬ cnN F k' q) := fun k' q h1 h2 c => by
        by_cases e : k' = k
        · subst e
          exact absurd ((mL _).2 ((can_iff ck).2 c)) List.not_mem_nil
        · exact hno.out k' q h1 (by omega) c
      clear aL mL oL hb2 hno BC l0
      simp only [List.length_nil] at *
      go_wp2_with fail
      go_roundw
      case rel => exact ⟨k + 1, by omega, by omega, by go_num, B2, NO⟩
      case measure => simp [Go.RowKit.intOf]; omega
    obtain ⟨g8, c8, hv8, lb8, lg8, hc8⟩ := lst_first (lo := 0) oL l0
    subst hv8
    obtain ⟨l8, hl8⟩ : ∃ l8, l8 = L0.length := ⟨_, rfl⟩
    obtain ⟨_, q, hq, cq⟩ := (mL L0[0]).1 (List.getElem_mem l0)
    obtain ⟨d, hd⟩ : ∃ d, k = od + d := ⟨k - od, by omega⟩
    obtain ⟨p, hp⟩ : ∃ p, p = q * 2 ^ d := ⟨_, rfl⟩
    have T : Took F od p k q d := ⟨hd.symm, ck, cq, fun q' c' => by
      have h1 := (mL _).2 ((can_iff ck).2 c')
      obtain ⟨j, hj, ej⟩ := List.getElem_of_mem h1
      have h2 : L0[0] ≤ L0[j] := by
        by_cases c : j = 0
        · subst c; exact Int.le_refl _
        · exact Int.le_of_lt (List.pairwise_iff_getElem.1 aL 0 j l0 hj (Nat.pos_of_ne_zero c))
      rw [ej, hq] at h2
      exact Nat.le_of_mul_le_mul_right (Int.ofNat_le.1 h2) (p2pos k), fun k' h1 h2 q' => hno.out k' q' h1 h2, hp⟩
    obtain ⟨a, ha⟩ : ∃ a : Nat, a = p * 2 ^ od := ⟨_, rfl⟩
    have HT : Hid (Took F od p k q d) := T
    have HA : Hid (a = p * 2 ^ od) := ha
    have ea : L0[0] = (a : Int) := by rw [hq, ha, T.mul]
    rw [ea] at hc8
    have top : Hid (a + m ≤ n) := by
      show a + m ≤ n
      have l := HF.out _ (T.all (p * 2 ^ od + (2 ^ od - 1)) ((in_blk od p _).2 ⟨Nat.le_add_right _ _, by have := p2pos od; generalize 2 ^ od = Q at *; generalize p * Q = X at *; omega⟩))
      have pp := p2pos od
      rw [ha, HM.out]
      generalize 2 ^ od = Q at *
      generalize p * Q = X at *
      clear ha HM wA wB hd hp hq T
      omega
    have aw : a ≤ 6144 := by have := top.out; omega
    have w2z := W2S.out
    have SC : Hid (∀ W, Below u1.heap.size u1 W → Calls Try.prog 37 #[.agg #[.slice (some ⟨fb, 0, none⟩) n cf, .slice pg ll cg], .int .i64 a, .int .i64 m, .bool false] W fun e w' => e = .returned (.tuple #[]) ∧ (Sn w' fb n (fun y => F y ∧ ¬ y / 2 ^ od = p) ∧ Blk w' sx [.slice (some ⟨fb, 0, none⟩) n cf, .slice pg ll cg] 35 ∧ Blk w' (sx + 1) [.slice none 0 0, .slice none 0 0] 35 ∧ w'.cell? ⟨g8, 0, none⟩ = some (.int .i64 (a : Int)) ∧ Kf (fun j => j = fb) w2 w' ∧ (sx + 1 < g8 ∧ g8 < w'.heap.size))) := fun W hbW => by
      have bW := B2.out.trans (hbW.mono B2.out.size)
      obtain ⟨bs, br, hSn⟩ := CC.out W bW
      refine (rset_any fb n cf (.slice pg ll cg) a m false F top.out (by omega) W hSn).mono ?_
      rintro e w' ⟨he, hs, kf⟩
      have lW : g8 < W.heap.size := Nat.lt_of_lt_of_le lg8 hbW.size
      have z8 : w2.heap.size ≤ g8 := Nat.le_trans hb.out.size lb8
      refine ⟨he, hs.congr (fun y => ?_), bs.kf kf (by omega), br.kf kf (by omega), ?_, (Kf.below bW).trans kf, by omega, Nat.lt_of_lt_of_le lW kf.size⟩
      · rw [HM.out, ha, ← in_blk]
        constructor
        · rintro (⟨_, h⟩ | ⟨h1, h2⟩)
          · cases h
          · exact ⟨h2, h1⟩
        · rintro ⟨h1, h2⟩; exact Or.inr ⟨h2, h1⟩
      · rw [World.cell?_of_block (w := W) (a := ⟨g8, 0, none⟩) (kf.block g8 lW (by omega)), World.cell?_of_block (w := u1) (a := ⟨g8, 0, none⟩) (hbW.block g8 lg8)]
        exact hc8
    have bs1 := (CC.out _ B2.out).1
    have sc0 : u1.cell? ⟨sx, 0, none⟩ = some (.slice (some ⟨fb, 0, none⟩) n cf) := bs1.cell 0
    have sc1 : u1.cell? ⟨sx, 1, none⟩ = some (.slice pg ll cg) := bs1.cell 1
    have cg0 : u1.cell? ⟨g8, 0, none⟩ = some (.int .i64 (a : Int)) := hc8
    have l8p : 0 < l8 := by omega
    have l8a : ((l8 : Int) == 0) = false := by simp; omega
    have l8b : decide ((0 : Int) < (l8 : Int)) = true := by simp; omega
    have lsx1 : sx < u1.heap.size := blk_lt bs1
    rw [← hl8]
    clear aL mL oL hb2 hno BC l0 hl8 hq cq hd hp T ha ea hc8 lb8 bs1 hb w2z
    go_upto_region 8 with fail
    refine wp_region_noPanic ?_
    refine wp_region_held_drew (S := fun c => (c.cell? ⟨sx, 0, none⟩ = some (.slice (some ⟨fb, 0, none⟩) n cf) ∧ c.cell? ⟨sx, 1, none⟩ = some (.slice pg ll cg)) ∧ c.cell? ⟨g8, 0, none⟩ = some (.int .i64 (a : Int))) (by kernel_rfl) ?_ (fun hHeld => ?_)
    · exact ⟨⟨sc0, sc1⟩, cg0⟩
    have SU : Hid _ := SC.out u1.drew (below_drew (Below.refl _ _))
    generalize u1.drew = U at SU hHeld ⊢
    refine wpAnyH_take (i := 0) (oi := ⟨some 32, _, _, _, _, none⟩) (v := (.agg #[.slice (some ⟨fb, 0, none⟩) n cf, .slice pg ll cg])) rfl (by kernel_rfl) (by kernel_rfl) (by kernel_rfl) (fun _ _ _ h => h) (Or.inl ⟨by rfl, ?_⟩) (by assumption) ?_
    · intro w hSw; (try dsimp only at hSw); have q0 : w.cell? ⟨sx, 0, none⟩ = some (.slice (some ⟨fb, 0, none⟩) n cf) := hSw.1.1; have q1 : w.cell? ⟨sx, 1, none⟩ = some (.slice pg ll cg) := hSw.1.2; go_simp; (try simp)
    try simp only [Act.put, List.setIfInBounds_toArray, List.set_cons_zero, List.set_cons_succ]
    refine wpAnyH_take (i := 1) (oi := ⟨some 33, _, _, _, _, none⟩) (v := ?_) rfl (by kernel_rfl) (by kernel_rfl) (by kernel_rfl) (fun _ _ _ h => h) (Or.inl ⟨by rfl, ?_⟩) (by assumption) ?_
    rotate_left
    · intro w hSw; (try dsimp only at hSw); go_simp; (try with_reducible rfl)
    try simp only [Act.put, List.setIfInBounds_toArray, List.set_cons_zero, List.set_cons_succ]
    refine wpAnyH_take (i := 2) (oi := ⟨some 34, _, _, _, _, none⟩) (v := (.pointer (some ⟨g8, 0, none⟩))) rfl (by kernel_rfl) (by kernel_rfl) (by kernel_rfl) (fun _ _ _ h => h) (Or.inl ⟨by rfl, ?_⟩) (by assumption) ?_
    · intro w hSw; (try dsimp only at hSw); go_simp; (try simp); (try (simp only [IntKind.wrap_i64]; omega))
    try simp only [Act.put, List.setIfInBounds_toArray, List.set_cons_zero, List.set_cons_succ]
    refine wpAnyH_take (i := 3) (oi := ⟨some 35, _, _, _, _, none⟩) (v := (.int .i64 (a : Int))) rfl (by kernel_rfl) (by kernel_rfl) (by kernel_rfl) (fun _ _ _ h => h) (Or.inl ⟨by rfl, ?_⟩) (by assumption) ?_
    · intro w hSw; (try dsimp only at hSw); have q0 : w.cell? ⟨g8, 0, none⟩ = some (.int .i64 (a : Int)) := hSw.2; go_simp; (try simp)
    try simp only [Act.put, List.setIfInBounds_toArray, List.set_cons_zero, List.set_cons_succ]
    refine wpAnyH_take (i := 4) (oi := ⟨some 36, _, _, _, _, none⟩) (v := ?_) rfl (by kernel_rfl) (by kernel_rfl) (by kernel_rfl) (fun _ _ _ h => h) (Or.inl ⟨by rfl, ?_⟩) (by assumption) ?_
    rotate_left
    · intro w hSw; (try dsimp only at hSw); go_simp; (try with_reducible rfl)
    try simp only [Act.put, List.setIfInBounds_toArray, List.set_cons_zero, List.set_cons_succ]
    refine wpAnyH_take (i := 5) (oi := ⟨some 37, _, _, _, _, none⟩) (v := .int .i64 (m : Int)) rfl (by kernel_rfl) (by kernel_rfl) (by kernel_rfl) (fun _ _ _ h => h) (Or.inl ⟨by rfl, ?_⟩) (by assumption) ?_
    · intro w hSw; (try dsimp only at hSw); go_simp; (try simp only [wA od rfl, wB od rfl])
    try simp only [Act.put, List.setIfInBounds_toArray, List.set_cons_zero, List.set_cons_succ]
    refine wpAnyH_ready (rs := [6]) (by kernel_rfl) (by simp) ?_
    refine AllReadyH.cons (o := ⟨some 38, _, _, _, _, none⟩) rfl (fun K hK => ?_) AllReadyH.nil
    go_simp
    go_wp2_with (go_at_call 37; refine Calls.mono (SU.out) ?_; rintro e v3 ⟨rfl, hK3⟩)
    have J3 : Hid _ := hK3
    refine hK.out _ _ ⟨⟨hK3.2.1.cell 0, hK3.2.1.cell 1⟩, hK3.2.2.2.1⟩ (fun hHeld => ?_)
    clear hK K hHeld hK3 SU
    try simp only [Act.put, List.setIfInBounds_toArray, List.set_cons_zero, List.set_cons_succ]
    refine wpAnyH_done (by kernel_rfl) ?_ _
    refine NoPanic.normal ?_
    obtain ⟨base, hba⟩ : ∃ base, v3.heap.size = base := ⟨_, rfl⟩
    have b1 : Below v3.heap.size v3 (v3.alloc (.cells #[] 75)) := Go.Joins.below_alloc1 _ _
    have b2 : Below (v3.alloc (.cells #[] 75)).heap.size (v3.alloc (.cells #[] 75)) ((v3.alloc (.cells #[] 75)).alloc (.cells #[.int .i64 (a : Int), .int .i64 (od : Int)] 75)) := Go.Joins.below_alloc1 _ _
    have z1 : (v3.alloc (.cells #[] 75)).heap.size = base + 1 := by rw [World.size_alloc, hba]
    have z2 : ((v3.alloc (.cells #[] 75)).alloc (.cells #[.int .i64 (a : Int), .int .i64 (od : Int)] 75)).heap.size = base + 2 := by rw [World.size_alloc, z1]
    have b12 := below_then b1 b2
    have cgv : v3.cell? ⟨g8, 0, none⟩ = some (.int .i64 (a : Int)) := J3.out.2.2.2.1
    have lgv : g8 < v3.heap.size := J3.out.2.2.2.2.2.2
    have AV : Hid (Sn ((v3.alloc (.cells #[] 75)).alloc (.cells #[.int .i64 (a : Int), .int .i64 (od : Int)] 75)) fb n (fun y => F y ∧ ¬ y / 2 ^ od = p) ∧ Blk ((v3.alloc (.cells #[] 75)).alloc (.cells #[.int .i64 (a : Int), .int .i64 (od : Int)] 75)) sx [.slice (some ⟨fb, 0, none⟩) n cf, .slice pg ll cg] 35 ∧ Blk ((v3.alloc (.cells #[] 75)).alloc (.cells #[.int .i64 (a : Int), .int .i64 (od : Int)] 75)) (sx + 1) [.slice none 0 0, .slice none 0 0] 35 ∧ ((v3.alloc (.cells #[] 75)).alloc (.cells #[.int .i64 (a : Int), .int .i64 (od : Int)] 75)).cell? ⟨g8, 0, none⟩ = some (.int .i64 (a : Int)) ∧ Kf (fun j => j = fb) w2 ((v3.alloc (.cells #[] 75)).alloc (.cells #[.int .i64 (a : Int), .int .i64 (od : Int)] 75)) ∧ (sx + 1 < g8 ∧ g8 < ((v3.alloc (.cells #[] 75)).alloc (.cells #[.int .i64 (a : Int), .int .i64 (od : Int)] 75)).heap.size)) := by
      obtain ⟨h1, h2, h3, h4, h5, h6⟩ := J3.out
      exact ⟨h1.block (b12.block fb h1.lt), h2.below b12, h3.below b12, by rw [World.cell?_of_block (w := v3) (a := ⟨g8, 0, none⟩) (b12.block g8 h6.2)]; exact h4, h5.trans (Kf.below b12), h6.1, Nat.lt_of_lt_of_le h6.2 b12.size⟩
    have MB : Hid (Blk ((v3.alloc (.cells #[] 75)).alloc (.cells #[.int .i64 (a : Int), .int .i64 (od : Int)] 75)) (base + 1) [.int .i64 (a : Int), .int .i64 (od : Int)] 75) := by
      have h : Blk ((v3.alloc (.cells #[] 75)).alloc (.cells #[.int .i64 (a : Int), .int .i64 (od : Int)] 75)) (v3.alloc (.cells #[] 75)).heap.size [.int .i64 (a : Int), .int .i64 (od : Int)] 75 := own1 _ _
      rw [z1] at h
      exact h
    have OB0 : Hid (OB ((v3.alloc (.cells #[] 75)).alloc (.cells #[.int .i64 (a : Int), .int .i64 (od : Int)] 75)) base (.slice (some ⟨base, 0, none⟩) 0 0) []) := by
      have h := ob_empty v3 base (by omega)
      rw [hba] at h
      exact row_keep h (fun g e => b2.block g (row_lt h g e).2)
    have gb : g8 < base := by omega
    have VZ : Hid (((v3.alloc (.cells #[] 75)).alloc (.cells #[.int .i64 (a : Int), .int .i64 (od : Int)] 75)).heap.size = base + 2) := z2
    clear b1 b2 z1 z2 b12 J3 sc0 sc1 cg0 lsx1 SC
    go_upto_region 11 with fail
    generalize ((v3.alloc (.cells #[] 75)).alloc (.cells #[.int .i64 (a : Int), .int .i64 (od : Int)] 75)) = V at *
    clear cgv lgv hba
    have sc1 : V.cell? ⟨sx, 1, none⟩ = some (.slice pg ll cg) := AV.out.2.1.cell 1
    have lsx1 : sx < V.heap.size := blk_lt AV.out.2.1
    have sxb : sx + 1 < base := by have := AV.out.2.2.2.2.2.1; omega
    have KW : Hid (∀ W, Kf (fun j => base ≤ j ∧ j ≠ base + 1) V W → Kf (fun j => j = fb ∨ base ≤ j) w2 W ∧ Kf (fun j => j = fb) w W) := fun W kf => by
      have k1 : Kf (fun j => j = fb ∨ base ≤ j) w2 W := (AV.out.2.2.2.2.1.le (fun j h => Or.inl h)).trans (kf.le (fun j h => Or.inr h.1))
      refine ⟨k1, k1.os.trans BW.out.os, k1.tape.trans BW.out.tape, k1.output.trans BW.out.output, Nat.le_trans BW.out.size k1.size, fun j hj nj => (k1.block j (Nat.lt_of_lt_of_le hj BW.out.size) (fun e => e.elim nj (fun e => by have := HSX.out; omega))).trans (BW.out.block j hj)⟩
    have R0 : Hid ((OB V base (Value.slice (some ⟨base, 0, none⟩) 0 0) ([] : List (Int × Int)) ∧ Kf (fun j => base ≤ j ∧ j ≠ base + 1) V V ∧ (Value.slice (some ⟨base, 0, none⟩) 0 0).ownBlock ≠ some (base + 1)) ∧ (false = false → ([] : List (Int × Int)) = L.take 0 ∧ ∀ j (hj : j < L.length), j < 0 → ¬ (a : Int) < L[j].1) ∧ (false = true → ([] : List (Int × Int)) ++ L.drop 0 = insP ((a : Int), (od : Int)) L) ∧ ([] : List (Int × Int)).length ≤ 0 + 1) := ⟨⟨OB0.out, Kf.refl _ _, fun e => by
      have e' : (some base : Option Nat) = some (base + 1) := e
      have := Option.some.inj e'
      omega⟩, fun _ => ⟨rfl, fun j hj h => absurd h (Nat.not_lt_zero _)⟩, (fun h => by cases h), Nat.zero_le _⟩
    have APPX : Hid (∀ (W : World) (v : Value) (Lo : List (Int × Int)) (x : Int × Int), (OB W base v Lo ∧ Kf (fun j => base ≤ j ∧ j ≠ base + 1) V W ∧ v.ownBlock ≠ some (base + 1)) → Lo.length ≤ 200000 → ∃ v' W2, (Builtin.append_ #[33, 33] 33 #[v, .slice (some ⟨W.heap.size, 0, none⟩) 1 1]).run Try.prog (W.alloc (.cells #[.int .i64 x.1, .int .i64 x.2] 75)) = .ok v' W2 ∧ (OB W2 base v' (Lo ++ [x]) ∧ Kf (fun j => base ≤ j ∧ j ≠ base + 1) V W2 ∧ v'.ownBlock ≠ some (base + 1)) ∧ (∀ j, j < W.heap.size → (j < base ∨ v.ownBlock ≠ some j) → W2.heap[j]? = W.heap[j]?) ∧ W.heap.size ≤ W2.heap.size) := fun W v Lo x ⟨g1, g2, g3⟩ hl => by
      have zW : base + 2 ≤ W.heap.size := Nat.le_trans (by have := VZ.out; omega) g2.size
      have ba : Below W.heap.size W (W.alloc (.cells #[.int .i64 x.1, .int .i64 x.2] 75)) := Go.Joins.below_alloc1 _ _
      obtain ⟨v', W2, r, ho, hg, hat⟩ := app_rowB2 base v Lo x (by omega) W g1 (by omega)
      refine ⟨v', W2, r, ⟨ho, (g2.trans (Kf.below ba)).trans (Kf.grownO hg (fun j e => ⟨(row_lt g1 j e).1, fun e2 => g3 (by rw [e, e2])⟩)), fun e => ?_⟩, fun j hj h => ?_, Nat.le_trans ba.size hg.size⟩
      · rcases hat with h | h
        · exact g3 (h.symm.trans e)
        · rw [h] at e
          have := Option.some.inj e
          omega
      · rw [hg.block j (Nat.lt_of_lt_of_le hj ba.size) (fun e => ?_), ba.block j hj]
        rcases h with h | h
        · have := (row_lt g1 j e.symm).1; omega
        · exact h e.symm
    clear OB0
    go_wp2_with fail
    clear sc1 lsx1
    go_loopw [9, 11, 13, 48] (fun v9 v11 _ vi W => ∃ (i : Nat) (z : Bool) (Lo : List (Int × Int)), i ≤ ll ∧ vi = .int .i64 i ∧ v11 = .bool z ∧ Hid ((OB W base v9 Lo ∧ Kf (fun j => base ≤ j ∧ j ≠ base + 1) V W ∧ v9.ownBlock ≠ some (base + 1)) ∧ (z = false → Lo = L.take i ∧ ∀ j (hj : j < L.length), j < i → ¬ (a : Int) < L[j].1) ∧ (z = true → Lo ++ L.drop i = insP ((a : Int), (od : Int)) L) ∧ Lo.length ≤ i + 1)) (fun _ _ _ vi _ => ll - (Go.RowKit.intOf vi).toNat)
    case atStart => exact ⟨0, false, [], by omega, rfl, rfl, ⟨R0.out.1, fun _ => ⟨rfl, fun j hj h => absurd h (Nat.not_lt_zero _)⟩, (fun h => by cases h), Nat.zero_le _⟩⟩
    case round =>
      clear R0
      obtain ⟨i, z, Lo, hi, rfl, rfl, hJ⟩ := hrel
      have MW : Hid (Blk wr (base + 1) [.int .i64 (a : Int), .int .i64 (od : Int)] 75) := MB.out.kf hJ.out.1.2.1 (by omega)
      have mc0 : wr.cell? ⟨base + 1, 0, none⟩ = some (.int .i64 (a : Int)) := MW.out.cell 0
      have mc1 : wr.cell? ⟨base + 1, 1, none⟩ = some (.int .i64 (od : Int)) := MW.out.cell 1
      have lmx : base + 1 < wr.heap.size := blk_lt MW.out
      have zL := HLL.out
      by_cases ci : i < ll
      · have d1 : decide ((i : Int) < (ll : Int)) = true := by simp; omega
        have d0 : decide ((i : Int) < 0) = false := by simp
        have iL : i < L.length := by omega
        obtain ⟨gq, epg, lo2, lgq, q1, q2⟩ := RD.out i iL
        subst epg
        have kw := (KW.out wr hJ.out.1.2.1).2
        have nq : ¬ gq = fb := by omega
        have k1' : wr.cell? ⟨gq, i * 2, none⟩ = some (.int .i64 L[i].1) := by rw [World.cell?_of_block (w := w) (a := ⟨gq, i * 2, none⟩) (kw.block gq lgq nq)]; exact q1
        have k2' : wr.cell? ⟨gq, i * 2 + 1, none⟩ = some (.int .i64 L[i].2) := by rw [World.cell?_of_block (w := w) (a := ⟨gq, i * 2 + 1, none⟩) (kw.block gq lgq nq)]; exact q2
        have lg2 : gq < wr.heap.size := Nat.lt_of_lt_of_le lgq kw.size
        have dr : L.drop i = L[i] :: L.drop (i + 1) := List.drop_eq_getElem_cons iL
        have tk : L.take (i + 1) = L.take i ++ [L[i]] := by rw [List.take_add_one, List.getElem?_eq_getElem iL]; rfl
        obtain ⟨y, hy⟩ : ∃ y, y = L[i].1 := ⟨_, rfl⟩
        obtain ⟨oo, hoo⟩ : ∃ oo, oo = L[i].2 := ⟨_, rfl⟩
        have ei : L[i] = (y, oo) := by rw [hy, hoo]
        rw [← hy] at k1'
        rw [← hoo] at k2'
        have ba : Below wr.heap.size wr (wr.alloc (.cells #[.int .i64 y, .int .i64 oo] 75)) := Go.Joins.below_alloc1 _ _
        have zX : (wr.alloc (.cells #[.int .i64 y, .int .i64 oo] 75)).heap.size = wr.heap.size + 1 := by rw [World.size_alloc]
        have OX : Hid (OB (wr.alloc (.cells #[.int .i64 y, .int .i64 oo] 75)) base u9 Lo ∧ Kf (fun j => base ≤ j ∧ j ≠ base + 1) V (wr.alloc (.cells #[.int .i64 y, .int .i64 oo] 75)) ∧ u9.ownBlock ≠ some (base + 1)) := ⟨row_keep hJ.out.1.1 (fun g e => ba.block g (row_lt hJ.out.1.1 g e).2), hJ.out.1.2.1.trans (Kf.below ba), hJ.out.1.2.2⟩
        have lo9 : Lo.length ≤ i + 1 := hJ.out.2.2.2
        cases z with
        | true =>
          obtain ⟨v', W2, r2, hO2, _⟩ := APPX.out _ u9 Lo (y, oo) OX.out (by omega)
          rw [zX] at r2
          have J2 : Hid ((OB W2 base v' (Lo ++ [(y, oo)]) ∧ Kf (fun j => base ≤ j ∧ j ≠ base + 1) V W2 ∧ v'.ownBlock ≠ some (base + 1)) ∧ (true = false → (Lo ++ [(y, oo)]) = L.take (i + 1) ∧ ∀ j (hj : j < L.length), j < (i + 1) → ¬ (a : Int) < L[j].1) ∧ (true = true → (Lo ++ [(y, oo)]) ++ L.drop (i + 1) = insP ((a : Int), (od : Int)) L) ∧ (Lo ++ [(y, oo)]).length ≤ (i + 1) + 1) := by
            refine ⟨hO2, (fun h => by cases h), fun _ => ?_, by rw [List.length_append]; simp; omega⟩
            have h := hJ.out.2.2.1 rfl
            rw [dr, ei] at h
            rw [List.append_assoc]; exact h
          clear q1 q2 kw hJ OX hO2 hy hoo ei dr tk zX zL
          go_wp2_with (at_builtin; refine wpList_app rfl _ _ 33 rfl u9 (.slice (some ⟨wr.heap.size + 1, 0, none⟩) 1 1) rfl rfl v' W2 r2 ?_)
          go_roundw
          case rel => exact ⟨i + 1, true, Lo ++ [(y, oo)], by omega, by go_num, rfl, J2⟩
          case measure => simp [Go.RowKit.intOf]; omega
        | false =>
          obtain ⟨eLo, low⟩ := hJ.out.2.1 rfl
          by_cases cy : (a : Int) < y
          · have e5 : decide ((a : Int) < y) = true := by simp [cy]
            obtain ⟨v1, W1, r1, hO1, hk1, hz1⟩ := APPX.out _ u9 Lo ((a : Int), (od : Int)) OX.out (by omega)
            obtain ⟨v2, W2, r2, hO2, _⟩ := APPX.out W1 v1 (Lo ++ [((a : Int), (od : Int))]) (y, oo) hO1 (by rw [List.length_append]; simp; omega)
            have BW1 : Blk W1 wr.heap.size [.int .i64 y, .int .i64 oo] 75 := (hk1 wr.heap.size (by omega) (Or.inr (fun e => by have := (row_lt hJ.out.1.1 _ e).2; omega))).trans (own1 wr _)
            have yc0 : W1.cell? ⟨wr.heap.size, 0, none⟩ = some (.int .i64 y) := BW1.cell 0
            have yc1 : W1.cell? ⟨wr.heap.size, 1, none⟩ = some (.int .i64 oo) := BW1.cell 1
            have ly : wr.heap.size < W1.heap.size := blk_lt BW1
            rw [zX] at r1
            have J2 : Hid ((OB W2 base v2 (Lo ++ [((a : Int), (od : Int))] ++ [(y, oo)]) ∧ Kf (fun j => base ≤ j ∧ j ≠ base + 1) V W2 ∧ v2.ownBlock ≠ some (base + 1)) ∧ (true = false → (Lo ++ [((a : Int), (od : Int))] ++ [(y, oo)]) = L.take (i + 1) ∧ ∀ j (hj : j < L.length), j < (i + 1) → ¬ (a : Int) < L[j].1) ∧ (true = true → (Lo ++ [((a : Int), (od : Int))] ++ [(y, oo)]) ++ L.drop (i + 1) = insP ((a : Int), (od : Int)) L) ∧ (Lo ++ [((a : Int), (od : Int))] ++ [(y, oo)]).length ≤ (i + 1) + 1) := by
              refine ⟨hO2, (fun h => by cases h), fun _ => ?_, by rw [List.length_append, List.length_append, eLo, List.length_take]; simp; omega⟩
              rw [insP_split ((a : Int), (od : Int)) L i low, dr, ei]
              have e : insP ((a : Int), (od : Int)) ((y, oo) :: L.drop (i + 1)) = ((a : Int), (od : Int)) :: (y, oo) :: L.drop (i + 1) := by
                show (if (a : Int) < y then _ else _) = _
                rw [if_pos cy]
              rw [e, eLo]; simp
            clear q1 q2 kw hJ OX hO1 hO2 hk1 BW1 hy hoo ei dr tk zX zL eLo low hz1
            go_wp2_with (at_builtin; first | (refine wpList_app rfl _ _ 33 rfl u9 (.slice (some ⟨wr.heap.size + 1, 0, none⟩) 1 1) rfl rfl v1 W1 r1 ?_) | (refine wpList_app rfl _ _ 33 rfl v1 (.slice (some ⟨W1.heap.size, 0, none⟩) 1 1) rfl rfl v2 W2 r2 ?_))
            go_roundw
            case rel => exact ⟨i + 1, true, Lo ++ [((a : Int), (od : Int))] ++ [(y, oo)], by omega, by go_num, rfl, J2⟩
            case measure => simp [Go.RowKit.intOf]; omega
          · have e5 : decide ((a : Int) < y) = false := by simp; omega
            obtain ⟨v', W2, r2, hO2, _⟩ := APPX.out _ u9 Lo (y, oo) OX.out (by omega)
            rw [zX] at r2
            have J2 : Hid ((OB W2 base v' (Lo ++ [(y, oo)]) ∧ Kf (fun j => base ≤ j ∧ j ≠ base + 1) V W2 ∧ v'.ownBlock ≠ some (base + 1)) ∧ (false = false → (Lo ++ [(y, oo)]) = L.take (i + 1) ∧ ∀ j (hj : j < L.length), j < (i + 1) → ¬ (a : Int) < L[j].1) ∧ (false = true → (Lo ++ [(y, oo)]) ++ L.drop (i + 1) = insP ((a : Int), (od : Int)) L) ∧ (Lo ++ [(y, oo)]).length ≤ (i + 1) + 1) := by
              refine ⟨hO2, fun _ => ⟨by rw [tk, eLo, ei], fun j hj h => ?_⟩, (fun h => by cases h), by rw [List.length_append]; simp; omega⟩
              by_cases c : j = i
              · subst c; rw [ei]; exact cy
              · exact low j hj (by omega)
            clear q1 q2 kw hJ OX hO2 hy hoo ei dr tk zX zL eLo low
            go_wp2_with (at_builtin; refine wpList_app rfl _ _ 33 rfl u9 (.slice (some ⟨wr.heap.size + 1, 0, none⟩) 1 1) rfl rfl v' W2 r2 ?_)
            go_roundw
            case rel => exact ⟨i + 1, false, Lo ++ [(y, oo)], by omega, by go_num, rfl, J2⟩
            case measure => simp [Go.RowKit.intOf]; omega
      obtain rfl : i = ll := by omega
      have d1 : decide ((i : Int) < (i : Int)) = false := by simp
      cases z with
      | true =>
        have eI : Lo = insP ((a : Int), (od : Int)) L := by
          have h := hJ.out.2.2.1 rfl
          rw [zL, List.drop_length, List.append_nil] at h
          exact h
        have OX : Hid (OB wr base u9 (insP ((a : Int), (od : Int)) L) ∧ Kf (fun j => base ≤ j ∧ j ≠ base + 1) V wr) := ⟨by rw [← eI]; exact hJ.out.1.1, hJ.out.1.2.1⟩
        clear eI hJ ci zL
        obtain ⟨p6, c6, hv6, _⟩ := ob_lb OX.out.1
        obtain ⟨l6, hl6⟩ : ∃ l6, l6 = (insP ((a : Int), (od : Int)) L).length := ⟨_, rfl⟩
        rw [← hl6] at hv6
        subst hv6
        have bsX : Blk wr sx [.slice (some ⟨fb, 0, none⟩) n cf, (.slice pg i cg)] 35 := AV.out.2.1.kf OX.out.2 (by omega)
        have brX : Blk wr (sx + 1) [.slice none 0 0, .slice none 0 0] 35 := AV.out.2.2.1.kf OX.out.2 (by omega)
        have lg8V : g8 < V.heap.size := AV.out.2.2.2.2.2.2
        have g8s : sx + 1 < g8 := AV.out.2.2.2.2.2.1
        have cg8 : wr.cell? ⟨g8, 0, none⟩ = some (.int .i64 (a : Int)) := by rw [World.cell?_of_block (w := V) (a := ⟨g8, 0, none⟩) (OX.out.2.block g8 lg8V (by omega))]; exact AV.out.2.2.2.1
        have bsY : Hid (Blk (wr.setCell ⟨sx, 1, none⟩ (.slice p6 l6 c6)) sx [.slice (some ⟨fb, 0, none⟩) n cf, .slice p6 l6 c6] 35) := bsX.set 1 _
        have kY := Kf.set (S := fun j => j = sx) wr sx 1 (.slice p6 l6 c6) rfl
        have brY : Hid (Blk (wr.setCell ⟨sx, 1, none⟩ (.slice p6 l6 c6)) (sx + 1) [.slice none 0 0, .slice none 0 0] 35) := brX.kf kY (by omega)
        have lg8X : g8 < wr.heap.size := Nat.lt_of_lt_of_le lg8V OX.out.2.size
        have cgY : Hid ((wr.setCell ⟨sx, 1, none⟩ (.slice p6 l6 c6)).cell? ⟨g8, 0, none⟩ = some (.int .i64 (a : Int))) := by
          show _ = _
          rw [World.cell?_of_block (w := wr) (a := ⟨g8, 0, none⟩) (kY.block g8 lg8X (by omega))]; exact cg8
        have EY : Hid (OB (wr.setCell ⟨sx, 1, none⟩ (.slice p6 l6 c6)) base (.slice p6 l6 c6) (insP ((a : Int), (od : Int)) L) ∧ Sn (wr.setCell ⟨sx, 1, none⟩ (.slice p6 l6 c6)) fb n (fun y => F y ∧ ¬ y / 2 ^ od = p) ∧ Kf (fun j => j = fb) w (wr.setCell ⟨sx, 1, none⟩ (.slice p6 l6 c6))) := by
          have hw := HSX.out
          have h1 := AV.out.1.block (OX.out.2.block fb AV.out.1.lt (by omega))
          have k9 := (KW.out wr OX.out.2).2
          refine ⟨row_keep OX.out.1 (fun g e => kY.block g (row_lt OX.out.1 g e).2 (by have := (row_lt OX.out.1 g e).1; omega)), h1.block (kY.block fb h1.lt (by omega)), ?_⟩
          exact ⟨kY.os.trans k9.os, kY.tape.trans k9.tape, kY.output.trans k9.output, Nat.le_trans k9.size kY.size, fun j hj nj => (kY.block j (Nat.lt_of_lt_of_le hj k9.size) (by omega)).trans (k9.block j hj nj)⟩
        have sc0 : wr.cell? ⟨sx, 0, none⟩ = some (.slice (some ⟨fb, 0, none⟩) n cf) := bsX.cell 0
        have sc1 : wr.cell? ⟨sx, 1, none⟩ = some (.slice pg i cg) := bsX.cell 1
        have sf1 : wr.frozen? ⟨sx, 1, none⟩ = false := bsX.free 1
        have lsxX : sx < wr.heap.size := blk_lt bsX
        clear bsX brX kY hl6 OX
        go_upto_region 23 with fail
        generalize wr.setCell ⟨sx, 1, none⟩ (.slice p6 l6 c6) = Y at *
        refine wp_region_noPanic ?_
        refine wp_region_held_drew (S := fun c => (c.cell? ⟨sx, 0, none⟩ = some (.slice (some ⟨fb, 0, none⟩) n cf) ∧ c.cell? ⟨sx, 1, none⟩ = some (.slice p6 l6 c6)) ∧ c.cell? ⟨g8, 0, none⟩ = some (.int .i64 (a : Int))) (by kernel_rfl) ?_ (fun hHeld => ?_)
        · exact ⟨⟨bsY.out.cell 0, bsY.out.cell 1⟩, cgY.out⟩
        have brU : Hid (Blk Y.drew (sx + 1) [.slice none 0 0, .slice none 0 0] 35) := brY.out
        have bsU : Hid (Blk Y.drew sx [.slice (some ⟨fb, 0, none⟩) n cf, .slice p6 l6 c6] 35) := bsY.out
        have cgU : Hid (Y.drew.cell? ⟨g8, 0, none⟩ = some (.int .i64 (a : Int))) := cgY.out
        have kU : Hid (Below Y.heap.size Y Y.drew) := below_drew (Below.refl _ _)
        generalize Y.drew = U at hHeld brU bsU cgU kU ⊢
        refine wpAnyH_take (i := 0) (oi := ⟨some 78, _, _, _, _, none⟩) (v := (.agg #[.slice (some ⟨fb, 0, none⟩) n cf, .slice p6 l6 c6])) rfl (by kernel_rfl) (by kernel_rfl) (by kernel_rfl) (fun _ _ _ h => h) (Or.inl ⟨by rfl, ?_⟩) (by assumption) ?_
        · intro w hSw; (try dsimp only at hSw); have q0 : w.cell? ⟨sx, 0, none⟩ = some (.slice (some ⟨fb, 0, none⟩) n cf) := hSw.1.1; have q1 : w.cell? ⟨sx, 1, none⟩ = some (.slice p6 l6 c6) := hSw.1.2; go_simp; (try simp)
        try simp only [Act.put, List.setIfInBounds_toArray, List.set_cons_zero, List.set_cons_succ]
        refine wpAnyH_take (i := 1) (oi := ⟨some 79, _, _, _, _, none⟩) (v := ?_) rfl (by kernel_rfl) (by kernel_rfl) (by kernel_rfl) (fun _ _ _ h => h) (Or.inl ⟨by rfl, ?_⟩) (by assumption) ?_
        rotate_left
        · intro w hSw; (try dsimp only at hSw); go_simp; (try with_reducible rfl)
        try simp only [Act.put, List.setIfInBounds_toArray, List.set_cons_zero, List.set_cons_succ]
        refine wpAnyH_take (i := 2) (oi := ⟨some 80, _, _, _, _, none⟩) (v := (.pointer (some ⟨g8, 0, none⟩))) rfl (by kernel_rfl) (by kernel_rfl) (by kernel_rfl) (fun _ _ _ h => h) (Or.inl ⟨by rfl, ?_⟩) (by assumption) ?_
        · intro w hSw; (try dsimp only at hSw); go_simp; (try simp); (try (simp only [IntKind.wrap_i64]; omega))
        try simp only [Act.put, List.setIfInBounds_toArray, List.set_cons_zero, List.set_cons_succ]
        refine wpAnyH_take (i := 3) (oi := ⟨some 81, _, _, _, _, none⟩) (v := (.int .i64 (a : Int))) rfl (by kernel_rfl) (by kernel_rfl) (by kernel_rfl) (fun _ _ _ h => h) (Or.inl ⟨by rfl, ?_⟩) (by assumption) ?_
        · intro w hSw; (try dsimp only at hSw); have q0 : w.cell? ⟨g8, 0, none⟩ = some (.int .i64 (a : Int)) := hSw.2; go_simp; (try simp)
        try simp only [Act.put, List.setIfInBounds_toArray, List.set_cons_zero, List.set_cons_succ]
        refine wpAnyH_ready (rs := [4]) (by kernel_rfl) (by simp) ?_
        refine AllReadyH.cons (o := ⟨none, .store 35 (.tmp 4) (.tmp 78), _, _, _, none⟩) rfl (fun K hK => ?_) AllReadyH.nil
        refine wanted_mp rfl ?_
        have th : U.there (sx + 1) 0 2 := Blk.there brU.out
        refine wp_store_mid _ _ _ rfl (sx + 1) 0 #[.slice (some ⟨fb, 0, none⟩) n cf, .slice p6 l6 c6] rfl rfl th (by kernel_rfl) (by simp [Value.oneCell']) ?_
        obtain ⟨hr, kf⟩ := res2s (.slice (some ⟨fb, 0, none⟩) n cf) (.slice p6 l6 c6) brU.out
        generalize hUW : U.setCells (sx + 1) 0 [.slice (some ⟨fb, 0, none⟩) n cf, .slice p6 l6 c6] = UW at hr kf
        try simp only [List.toList_toArray]
        try rw [hUW]
        clear hUW
        have HR2 : Hid _ := hr
        have HK : Hid _ := kf
        have g8n : g8 ≠ sx + 1 := by omega
        have g8U : g8 < U.heap.size := lt_of_cell cgU.out
        refine hK.out _ _ ?_ (fun hHeld2 => ?_)
        · have b9 := bsU.out.kf kf (by omega)
          exact ⟨⟨b9.cell 0, b9.cell 1⟩, by rw [World.cell?_of_block (w := U) (a := ⟨g8, 0, none⟩) (kf.block g8 g8U g8n)]; exact cgU.out⟩
        clear hK K hHeld th hr kf
        try simp only [Act.put, List.setIfInBounds_toArray, List.set_cons_zero, List.set_cons_succ]
        refine wpAnyH_take (i := 5) (oi := ⟨some 5, _, _, _, _, none⟩) (v := ?_) rfl (by kernel_rfl) (by kernel_rfl) (by kernel_rfl) (fun _ _ _ h => h) (Or.inl ⟨by rfl, ?_⟩) (by assumption) ?_
        rotate_left
        · intro w hSw; (try dsimp only at hSw); go_simp; (try with_reducible rfl)
        try simp only [Act.put, List.setIfInBounds_toArray, List.set_cons_zero, List.set_cons_succ]
        refine wpAnyH_take (i := 6) (oi := ⟨some 6, _, _, _, _, none⟩) (v := ?_) rfl (by kernel_rfl) (by kernel_rfl) (by kernel_rfl) (fun _ _ _ h => h) (Or.inl ⟨by rfl, ?_⟩) (by assumption) ?_
        rotate_left
        · intro w hSw; (try dsimp only at hSw); go_simp; (try with_reducible rfl)
        try simp only [Act.put, List.setIfInBounds_toArray, List.set_cons_zero, List.set_cons_succ]
        clear hHeld2
        refine wpAnyH_done (by kernel_rfl) ?_ _
        refine NoPanic.normal ?_
        go_wp2_with fail
        refine bodyPost_ret (v := .tuple #[.agg #[.slice (some ⟨fb, 0, none⟩) n cf, .slice p6 l6 c6], .int .i64 (a : Int), .int .i64 0]) (results_tri Try.results16 _ _ _ _ _ _ _ rfl rfl rfl HR2.out) rfl ?_
        right
        have hw := HSX.out
        obtain ⟨y1, y2, y3⟩ := EY.out
        have s1 := y2.block (kU.out.block fb y2.lt)
        have s2 := s1.block (HK.out.block fb s1.lt (by omega))
        have o1 : OB U base (.slice p6 l6 c6) (insP ((a : Int), (od : Int)) L) := row_keep y1 (fun g e => kU.out.block g (row_lt y1 g e).2)
        have o2 : OB UW base (.slice p6 l6 c6) (insP ((a : Int), (od : Int)) L) := row_keep o1 (fun g e => HK.out.block g (row_lt o1 g e).2 (by have := (row_lt o1 g e).1; omega))
        have eA : (p : Int) * 2 ^ od = (a : Int) := by rw [HA.out]; simp
        refine ⟨p, k, q, d, .slice p6 l6 c6, (by first | rw [← HA.out] | rw [eA]), HT.out, s2, ?_, ?_⟩
        · first | rw [← HA.out] | rw [eA]
          exact (ob_lb o2).low (by clear eA; omega)
        · clear eA
          refine ⟨HK.out.os.trans (kU.out.os.trans y3.os), HK.out.tape.trans (kU.out.tape.trans y3.tape), HK.out.output.trans (kU.out.output.trans y3.output), Nat.le_trans y3.size (Nat.le_trans kU.out.size HK.out.size), fun j hj nj => ?_⟩
          have l1 := Nat.lt_of_lt_of_le hj y3.size
          rw [HK.out.block j (Nat.lt_of_lt_of_le l1 kU.out.size) (by omega), kU.out.block j l1]
          exact y3.block j hj nj

      | false =>
        obtain ⟨eLo, low⟩ := hJ.out.2.1 rfl
        obtain ⟨v', W2, r2, hO2, _⟩ := APPX.out wr u9 Lo ((a : Int), (od : Int)) hJ.out.1 (by have := hJ.out.2.2.2; omega)
        have eI : Lo ++ [((a : Int), (od : Int))] = insP ((a : Int), (od : Int)) L := by
          rw [insP_split ((a : Int), (od : Int)) L i low, eLo, zL, List.drop_length]; rfl
        have OX : Hid (OB W2 base v' (insP ((a : Int), (od : Int)) L) ∧ Kf (fun j => base ≤ j ∧ j ≠ base + 1) V W2) := ⟨by rw [← eI]; exact hO2.1, hO2.2.1⟩
        clear eI hJ ci zL eLo low hO2
        obtain ⟨p6, c6, hv6, _⟩ := ob_lb OX.out.1
        obtain ⟨l6, hl6⟩ : ∃ l6, l6 = (insP ((a : Int), (od : Int)) L).length := ⟨_, rfl⟩
        rw [← hl6] at hv6
        subst hv6
        have bsX : Blk W2 sx [.slice (some ⟨fb, 0, none⟩) n cf, (.slice pg i cg)] 35 := AV.out.2.1.kf OX.out.2 (by omega)
        have brX : Blk W2 (sx + 1) [.slice none 0 0, .slice none 0 0] 35 := AV.out.2.2.1.kf OX.out.2 (by omega)
        have lg8V : g8 < V.heap.size := AV.out.2.2.2.2.2.2
        have g8s : sx + 1 < g8 := AV.out.2.2.2.2.2.1
        have cg8 : W2.cell? ⟨g8, 0, none⟩ = some (.int .i64 (a : Int)) := by rw [World.cell?_of_block (w := V) (a := ⟨g8, 0, none⟩) (OX.out.2.block g8 lg8V (by omega))]; exact AV.out.2.2.2.1
        have bsY : Hid (Blk (W2.setCell ⟨sx, 1, none⟩ (.slice p6 l6 c6)) sx [.slice (some ⟨fb, 0, none⟩) n cf, .slice p6 l6 c6] 35) := bsX.set 1 _
        have kY := Kf.set (S := fun j => j = sx) W2 sx 1 (.slice p6 l6 c6) rfl
        have brY : Hid (Blk (W2.setCell ⟨sx, 1, none⟩ (.slice p6 l6 c6)) (sx + 1) [.slice none 0 0, .slice none 0 0] 35) := brX.kf kY (by omega)
        have lg8X : g8 < W2.heap.size := Nat.lt_of_lt_of_le lg8V OX.out.2.size
        have cgY : Hid ((W2.setCell ⟨sx, 1, none⟩ (.slice p6 l6 c6)).cell? ⟨g8, 0, none⟩ = some (.int .i64 (a : Int))) := by
          show _ = _
          rw [World.cell?_of_block (w := W2) (a := ⟨g8, 0, none⟩) (kY.block g8 lg8X (by omega))]; exact cg8
        have EY : Hid (OB (W2.setCell ⟨sx, 1, none⟩ (.slice p6 l6 c6)) base (.slice p6 l6 c6) (insP ((a : Int), (od : Int)) L) ∧ Sn (W2.setCell ⟨sx, 1, none⟩ (.slice p6 l6 c6)) fb n (fun y => F y ∧ ¬ y / 2 ^ od = p) ∧ Kf (fun j => j = fb) w (W2.setCell ⟨sx, 1, none⟩ (.slice p6 l6 c6))) := by
          have hw := HSX.out
          have h1 := AV.out.1.block (OX.out.2.block fb AV.out.1.lt (by omega))
          have k9 := (KW.out W2 OX.out.2).2
          refine ⟨row_keep OX.out.1 (fun g e => kY.block g (row_lt OX.out.1 g e).2 (by have := (row_lt OX.out.1 g e).1; omega)), h1.block (kY.block fb h1.lt (by omega)), ?_⟩
          exact ⟨kY.os.trans k9.os, kY.tape.trans k9.tape, kY.output.trans k9.output, Nat.le_trans k9.size kY.size, fun j hj nj => (kY.block j (Nat.lt_of_lt_of_le hj k9.size) (by omega)).trans (k9.block j hj nj)⟩
        have sc0 : W2.cell? ⟨sx, 0, none⟩ = some (.slice (some ⟨fb, 0, none⟩) n cf) := bsX.cell 0
        have sc1 : W2.cell? ⟨sx, 1, none⟩ = some (.slice pg i cg) := bsX.cell 1
        have sf1 : W2.frozen? ⟨sx, 1, none⟩ = false := bsX.free 1
        have lsxX : sx < W2.heap.size := blk_lt bsX
        clear bsX brX kY hl6 OX
        go_upto_region 22 with (at_builtin; refine wpList_app rfl _ _ 33 rfl u9 (.slice (some ⟨wr.heap.size, 0, none⟩) 1 1) rfl rfl (.slice p6 l6 c6) W2 r2 ?_)
        go_upto_region 23 with fail
        generalize W2.setCell ⟨sx, 1, none⟩ (.slice p6 l6 c6) = Y at *
        refine wp_region_noPanic ?_
        refine wp_region_held_drew (S := fun c => (c.cell? ⟨sx, 0, none⟩ = some (.slice (some ⟨fb, 0, none⟩) n cf) ∧ c.cell? ⟨sx, 1, none⟩ = some (.slice p6 l6 c6)) ∧ c.cell? ⟨g8, 0, none⟩ = some (.int .i64 (a : Int))) (by kernel_rfl) ?_ (fun hHeld => ?_)
        · exact ⟨⟨bsY.out.cell 0, bsY.out.cell 1⟩, cgY.out⟩
        have brU : Hid (Blk Y.drew (sx + 1) [.slice none 0 0, .slice none 0 0] 35) := brY.out
        have bsU : Hid (Blk Y.drew sx [.slice (some ⟨fb, 0, none⟩) n cf, .slice p6 l6 c6] 35) := bsY.out
        have cgU : Hid (Y.drew.cell? ⟨g8, 0, none⟩ = some (.int .i64 (a : Int))) := cgY.out
        have kU : Hid (Below Y.heap.size Y Y.drew) := below_drew (Below.refl _ _)
        generalize Y.drew = U at hHeld brU bsU cgU kU ⊢
        refine wpAnyH_take (i := 0) (oi := ⟨some 78, _, _, _, _, none⟩) (v := (.agg #[.slice (some ⟨fb, 0, none⟩) n cf, .slice p6 l6 c6])) rfl (by kernel_rfl) (by kernel_rfl) (by kernel_rfl) (fun _ _ _ h => h) (Or.inl ⟨by rfl, ?_⟩) (by assumption) ?_
        · intro w hSw; (try dsimp only at hSw); have q0 : w.cell? ⟨sx, 0, none⟩ = some (.slice (some ⟨fb, 0, none⟩) n cf) := hSw.1.1; have q1 : w.cell? ⟨sx, 1, none⟩ = some (.slice p6 l6 c6) := hSw.1.2; go_simp; (try simp)
        try simp only [Act.put, List.setIfInBounds_toArray, List.set_cons_zero, List.set_cons_succ]
        refine wpAnyH_take (i := 1) (oi := ⟨some 79, _, _, _, _, none⟩) (v := ?_) rfl (by kernel_rfl) (by kernel_rfl) (by kernel_rfl) (fun _ _ _ h => h) (Or.inl ⟨by rfl, ?_⟩) (by assumption) ?_
        rotate_left
        · intro w hSw; (try dsimp only at hSw); go_simp; (try with_reducible rfl)
        try simp only [Act.put, List.setIfInBounds_toArray, List.set_cons_zero, List.set_cons_succ]
        refine wpAnyH_take (i := 2) (oi := ⟨some 80, _, _, _, _, none⟩) (v := (.pointer (some ⟨g8, 0, none⟩))) rfl (by kernel_rfl) (by kernel_rfl) (by kernel_rfl) (fun _ _ _ h => h) (Or.inl ⟨by rfl, ?_⟩) (by assumption) ?_
        · intro w hSw; (try dsimp only at hSw); go_simp; (try simp); (try (simp only [IntKind.wrap_i64]; omega))
        try simp only [Act.put, List.setIfInBounds_toArray, List.set_cons_zero, List.set_cons_succ]
        refine wpAnyH_take (i := 3) (oi := ⟨some 81, _, _, _, _, none⟩) (v := (.int .i64 (a : Int))) rfl (by kernel_rfl) (by kernel_rfl) (by kernel_rfl) (fun _ _ _ h => h) (Or.inl ⟨by rfl, ?_⟩) (by assumption) ?_
        · intro w hSw; (try dsimp only at hSw); have q0 : w.cell? ⟨g8, 0, none⟩ = some (.int .i64 (a : Int)) := hSw.2; go_simp; (try simp)
        try simp only [Act.put, List.setIfInBounds_toArray, List.set_cons_zero, List.set_cons_succ]
        refine wpAnyH_ready (rs := [4]) (by kernel_rfl) (by simp) ?_
        refine AllReadyH.cons (o := ⟨none, .store 35 (.tmp 4) (.tmp 78), _, _, _, none⟩) rfl (fun K hK => ?_) AllReadyH.nil
        refine wanted_mp rfl ?_
        have th : U.there (sx + 1) 0 2 := Blk.there brU.out
        refine wp_store_mid _ _ _ rfl (sx + 1) 0 #[.slice (some ⟨fb, 0, none⟩) n cf, .slice p6 l6 c6] rfl rfl th (by kernel_rfl) (by simp [Value.oneCell']) ?_
        obtain ⟨hr, kf⟩ := res2s (.slice (some ⟨fb, 0, none⟩) n cf) (.slice p6 l6 c6) brU.out
        generalize hUW : U.setCells (sx + 1) 0 [.slice (some ⟨fb, 0, none⟩) n cf, .slice p6 l6 c6] = UW at hr kf
        try simp only [List.toList_toArray]
        try rw [hUW]
        clear hUW
        have HR2 : Hid _ := hr
        have HK : Hid _ := kf
        have g8n : g8 ≠ sx + 1 := by omega
        have g8U : g8 < U.heap.size := lt_of_cell cgU.out
        refine hK.out _ _ ?_ (fun hHeld2 => ?_)
        · have b9 := bsU.out.kf kf (by omega)
          exact ⟨⟨b9.cell 0, b9.cell 1⟩, by rw [World.cell?_of_block (w := U) (a := ⟨g8, 0, none⟩) (kf.block g8 g8U g8n)]; exact cgU.out⟩
        clear hK K hHeld th hr kf
        try simp only [Act.put, List.setIfInBounds_toArray, List.set_cons_zero, List.set_cons_succ]
        refine wpAnyH_take (i := 5) (oi := ⟨some 5, _, _, _, _, none⟩) (v := ?_) rfl (by kernel_rfl) (by kernel_rfl) (by kernel_rfl) (fun _ _ _ h => h) (Or.inl ⟨by rfl, ?_⟩) (by assumption) ?_
        rotate_left
        · intro w hSw; (try dsimp only at hSw); go_simp; (try with_reducible rfl)
        try simp only [Act.put, List.setIfInBounds_toArray, List.set_cons_zero, List.set_cons_succ]
        refine wpAnyH_take (i := 6) (oi := ⟨some 6, _, _, _, _, none⟩) (v := ?_) rfl (by kernel_rfl) (by kernel_rfl) (by kernel_rfl) (fun _ _ _ h => h) (Or.inl ⟨by rfl, ?_⟩) (by assumption) ?_
        rotate_left
        · intro w hSw; (try dsimp only at hSw); go_simp; (try with_reducible rfl)
        try simp only [Act.put, List.setIfInBounds_toArray, List.set_cons_zero, List.set_cons_succ]
        clear hHeld2
        refine wpAnyH_done (by kernel_rfl) ?_ _
        refine NoPanic.normal ?_
        go_wp2_with fail
        refine bodyPost_ret (v := .tuple #[.agg #[.slice (some ⟨fb, 0, none⟩) n cf, .slice p6 l6 c6], .int .i64 (a : Int), .int .i64 0]) (results_tri Try.results16 _ _ _ _ _ _ _ rfl rfl rfl HR2.out) rfl ?_
        right
        have hw := HSX.out
        obtain ⟨y1, y2, y3⟩ := EY.out
        have s1 := y2.block (kU.out.block fb y2.lt)
        have s2 := s1.block (HK.out.block fb s1.lt (by omega))
        have o1 : OB U base (.slice p6 l6 c6) (insP ((a : Int), (od : Int)) L) := row_keep y1 (fun g e => kU.out.block g (row_lt y1 g e).2)
        have o2 : OB UW base (.slice p6 l6 c6) (insP ((a : Int), (od : Int)) L) := row_keep o1 (fun g e => HK.out.block g (row_lt o1 g e).2 (by have := (row_lt o1 g e).1; omega))
        have eA : (p : Int) * 2 ^ od = (a : Int) := by rw [HA.out]; simp
        refine ⟨p, k, q, d, .slice p6 l6 c6, (by first | rw [← HA.out] | rw [eA]), HT.out, s2, ?_, ?_⟩
        · first | rw [← HA.out] | rw [eA]
          exact (ob_lb o2).low (by clear eA; omega)
        · clear eA
          refine ⟨HK.out.os.trans (kU.out.os.trans y3.os), HK.out.tape.trans (kU.out.tape.trans y3.tape), HK.out.output.trans (kU.out.output.trans y3.output), Nat.le_trans y3.size (Nat.le_trans kU.out.size HK.out.size), fun j hj nj => ?_⟩
          have l1 := Nat.lt_of_lt_of_le hj y3.size
          rw [HK.out.block j (Nat.lt_of_lt_of_le l1 kU.out.size) (by omega), kU.out.block j l1]
          exact y3.block j hj nj

end Go.Proofs.Ytpjejjonkdhelaa
