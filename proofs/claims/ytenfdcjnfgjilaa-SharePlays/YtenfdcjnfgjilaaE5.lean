/- Grants: a call of the laws with the document's list: Clear. -/
import Derived.Test.YtenfdcjnfgjilaaXF
namespace Go.Proofs.Ytenfdcjnfgjilaa
open Go.ChangeShapes Go.WideShapes Go.ChangeAt Go.RowKit Go.Maps
set_option linter.unusedSimpArgs false
set_option linter.unusedVariables false
set_option maxRecDepth 8000
set_option maxRecDepth 8000
set_option maxRecDepth 8000

theorem flatg_enc : ∀ (L : List Gr) (i j : Nat), i < L.length → j < 6 → (L.flatMap Gr.enc)[i * 6 + j]? = (L.getD i Gr.zero).enc[j]?
  | [], i, j, h, _ => absurd h (Nat.not_lt_zero _)
  | l :: r, 0, j, h, hj => by
    rw [List.flatMap_cons, List.getElem?_append_left (by rw [enc_len]; omega)]
    simp [List.getD]
  | l :: r, i + 1, j, h, hj => by
    rw [List.flatMap_cons, List.getElem?_append_right (by rw [enc_len]; omega), enc_len]
    rw [show (i + 1) * 6 + j - 6 = i * 6 + j by omega, flatg_enc r i j (by simpa using h) hj]
    simp [List.getD]
def IsGo (w : World) (base : Nat) (p : Option Addr) (G : List Gr) : Prop := ∀ i, i < G.length → ∃ g, p = some ⟨g, 0, none⟩ ∧ base ≤ g ∧ g < w.heap.size ∧ ∀ j x, (G.getD i Gr.zero).enc[j]? = some x → w.cell? ⟨g, i * 6 + j, none⟩ = some x
theorem IsGo.below {w w' : World} {base : Nat} {p : Option Addr} {G : List Gr} (h : IsGo w base p G) (hb : Below w.heap.size w w') : IsGo w' base p G := fun i hi => by
  obtain ⟨g, e, l1, l2, c⟩ := h i hi
  exact ⟨g, e, l1, Nat.lt_of_lt_of_le l2 hb.size, fun j x hx => (hb.cell (p := ⟨g, i * 6 + j, none⟩) l2).trans (c j x hx)⟩
theorem gone_read {w : World} {base : Nat} {v : Value} {G : List Gr} (h : w.ownsRow base 24 6 v G.length (encL G)) : ∃ p c, v = .slice p G.length c ∧ IsGo w base p G := by
  obtain ⟨h1, h2 | ⟨g, cap, cur, e1, e2, e3, e4, e5, e6, e7⟩⟩ := h
  · refine ⟨none, 0, by rw [h2.1, h2.2], fun i hi => ?_⟩
    rw [h2.2] at hi; exact absurd hi (Nat.not_lt_zero _)
  · refine ⟨_, cap, e1, fun i hi => ⟨g, rfl, e2, (Array.getElem?_eq_some_iff.1 e3).1, fun j x hx => ?_⟩⟩
    have hj : j < 6 := (List.getElem?_eq_some_iff.1 hx).1
    rw [Go.Joins.cell_of_block e3 _]
    have : (cur.toList.take (G.length * 6))[i * 6 + j]? = (encL G)[i * 6 + j]? := by rw [e7]
    unfold encL at this
    rw [List.getElem?_take, if_pos (by omega), Array.getElem?_toList, flatg_enc G i j hi hj] at this
    rw [this]; exact hx
theorem of_pair (T : Nat → Gr) (p : Int) : ∀ n, (ofL T p n).Pairwise (· < ·)
  | 0 => List.Pairwise.nil
  | n + 1 => by
    cases c : ofP (T n) p
    · rw [of_no T p n c]; exact of_pair T p n
    · rw [of_yes T p n c, List.pairwise_append]
      refine ⟨of_pair T p n, List.pairwise_singleton _ _, fun a ha b hb => ?_⟩
      rw [List.mem_singleton] at hb
      have := ((mem_of T p a n).1 ha).1
      omega
theorem of_fresh (T : Nat → Gr) (p : Int) (n i : Nat) (hi : i < (ofL T p n).length) : (ofL T p n).getD i 0 ∉ (ofL T p n).take i := by
  intro h
  rw [List.mem_take_iff_getElem] at h
  obtain ⟨j, hj, e⟩ := h
  have hp := (List.pairwise_iff_getElem.1 (of_pair T p n)) j i (by omega) hi (by omega)
  rw [List.getD, List.getElem?_eq_getElem hi] at e
  simp only [Option.getD_some] at e
  omega
theorem gone_at : ∀ (A : List Nat) (T : Nat → Gr) (i : Nat), i < A.length → (goneL T A).getD i Gr.zero = clrL T (A.take i) (A.getD i 0)
  | [], T, i, h => absurd h (Nat.not_lt_zero _)
  | x :: r, T, 0, h => by simp [goneL, clrL, List.getD]
  | x :: r, T, i + 1, h => by
    have := gone_at r (putT T x Gr.zero) i (by simpa using h)
    simpa [goneL, clrL, List.getD] using this
theorem gone_of (T : Nat → Gr) (p : Int) (i : Nat) (hi : i < (ofL T p 256).length) : (goneL T (ofL T p 256)).getD i Gr.zero = T ((ofL T p 256).getD i 0) := by
  rw [gone_at _ T i hi, clr_at, if_neg (of_fresh T p 256 i hi)]
theorem isrq_drew5 {w : World} {base : Nat} {p : Option Addr} {L : List Rq} (h : IsRq w base p L) : IsRq w.drew base p L := h
theorem isgo_drew5 {w : World} {base : Nat} {p : Option Addr} {L : List Gr} (h : IsGo w base p L) : IsGo w.drew base p L := h
set_option maxHeartbeats 8000000 in
theorem rdoes5 (b : Nat) (T : Nat → Gr) (base : Nat) (q : Option Addr) (c : Nat) (hbb : b < base) (A B P : Int) (X : Bool) (w : World) (h : IsTab w b T) (hI : IsRq w base q (rowG T 256)) (hbw : base ≤ w.heap.size) :
    Calls Try.prog 9 #[.pointer (some ⟨b, 0, none⟩), .slice q (rowG T 256).length c, .agg #[.int .i64 5, .int .i64 A, .int .i64 B, .int .i64 P, .bool X]] w fun e w' => (∃ p' c', e = .returned (.tuple #[.slice p' (rowG (clrL T (ofL T A 256)) 256).length c', .bool true]) ∧ IsRq w' base p' (rowG (clrL T (ofL T A 256)) 256)) ∧ IsTab w' b (clrL T (ofL T A 256)) ∧ w.grownBy w' (some b) := by
  have hb := h.2.2
  have HT : Hid (IsTab w b T) := h
  have HI : Hid (IsRq w base q (rowG T 256)) := hI
  clear h hI
  have CO : Hid (∀ W : World, IsTab W b T → Calls Try.prog 19 #[.pointer (some ⟨b, 0, none⟩), .int .i64 A] W fun e w' => (∃ p' c', e = .returned (.slice p' (ofL T A 256).length c') ∧ IsGo w' W.heap.size p' (goneL T (ofL T A 256))) ∧ IsTab w' b (clrL T (ofL T A 256)) ∧ W.grownBy w' (some b)) := fun W h => (clear_any b T A W h).mono fun e w' ⟨v, h1, h2, h3, h4⟩ => by
    obtain ⟨p', c', rfl, hg⟩ := gone_read (G := goneL T (ofL T A 256)) (by rw [gone_len]; exact h2)
    exact ⟨⟨p', c', by rw [h1, gone_len], hg⟩, h3, h4⟩
  have RO : Hid (∀ W : World, IsRq W base q (rowG T 256) → Calls Try.prog 11 #[.slice q (rowG T 256).length c, .int .i64 A] W fun e w' => (∃ p' c', e = .returned (.slice p' (ofL T A 256).length c') ∧ IsRq w' W.heap.size p' ((ofL T A 256).map (fun k => tellG (T k) (k : Nat)))) ∧ Below W.heap.size W w') := fun W h => by
    have := rof_any base q c (rowG T 256) (row_len T 256) A W h
    rw [row_of] at this
    exact this.mono fun e w' ⟨p', c', h1, h2, h3⟩ => ⟨⟨p', c', by rw [h1, List.length_map], h2⟩, h3⟩
  have WO : Hid (∀ (T' : Nat → Gr) (lq : Option Addr) (lc k : Nat) (W : World), IsRq W base lq (rowG T' 256) → Calls Try.prog 26 #[.slice lq (rowG T' 256).length lc, .int .i64 k] W fun e w' => (∃ p' c', e = .returned (.slice p' (rowG (putT T' k Gr.zero) 256).length c') ∧ IsRq w' W.heap.size p' (rowG (putT T' k Gr.zero) 256)) ∧ Below W.heap.size W w') := fun T' lq lc k W h => rwithout_row T' base lq lc k W h
  have TD : Hid (∀ (l : Gr) (i : Int) (W : World), Calls Try.prog 15 #[l.val, .int .i64 i] W fun e w' => e = .returned (l.val7 i) ∧ Below W.heap.size W w') := told_any
  have GA : Hid (∀ m, m < (ofL T A 256).length → (goneL T (ofL T A 256)).getD m Gr.zero = T ((ofL T A 256).getD m 0)) := fun m hm => gone_of T A m hm
  have WA : Hid (∀ m, m < (ofL T A 256).length → ((ofL T A 256).map (fun k => tellG (T k) (k : Nat))).getD m Rq.zero = tellG (T ((ofL T A 256).getD m 0)) (((ofL T A 256).getD m 0 : Nat) : Int)) := fun m hm => by
    rw [List.getD, List.getElem?_map, List.getD, List.getElem?_eq_getElem hm]; simp
  have GL : Hid ((goneL T (ofL T A 256)).length = (ofL T A 256).length) := gone_len _ _
  have WL : Hid (((ofL T A 256).map (fun k => tellG (T k) (k : Nat))).length = (ofL T A 256).length) := List.length_map _
  have LN : Hid ((ofL T A 256).length ≤ 256) := of_len T A 256
  generalize (ofL T A 256) = L at CO RO GA WA GL WL LN ⊢
  generalize goneL T L = GG at CO GA GL
  generalize L.map (fun k => tellG (T k) (k : Nat)) = WW at RO WA WL
  obtain ⟨TN, hTN⟩ : ∃ TN, clrL T L = TN := ⟨_, rfl⟩
  have HTN : Hid (clrL T L = TN) := hTN
  rw [hTN] at CO ⊢
  obtain ⟨R2, hR2⟩ : ∃ R2, rowG TN 256 = R2 := ⟨_, rfl⟩
  have HR2 : Hid (rowG TN 256 = R2) := hR2
  rw [hR2]
  obtain ⟨n, hn⟩ : ∃ n, L.length = n := ⟨_, rfl⟩
  have HN : Hid (L.length = n) := hn
  rw [hn] at CO RO GA WA GL WL LN
  obtain ⟨n0, hn0⟩ : ∃ n0, (rowG T 256).length = n0 := ⟨_, rfl⟩
  have HN0 : Hid ((rowG T 256).length = n0) := hn0
  rw [hn0] at RO ⊢
  have ln : n ≤ 256 := LN.out
  clear hTN hR2 hn hn0
  have ee : ((n : Int) == (n : Int)) = true := by simp
  go_enter Try.func9, Try.ntmps9
  go_wp2_with fail
  refine (CO.out _ (HT.out.below (Go.Joins.below_alloc1 _ _))).mono ?_
  rintro e u1 ⟨⟨gq, gcap, rfl, hg⟩, h1, h2⟩
  have x1 : u1.cell? ⟨w.heap.size, 1, none⟩ = some (.int .i64 A) := cell_grown h2 (by simp) (by omega) (by simp)
  have lx : w.heap.size < u1.heap.size := Nat.lt_of_lt_of_le (by simp) h2.size
  have T1 : Hid (IsTab u1 b TN) := h1
  have G1 : Hid (w.grownBy u1 (some b)) := grown_trans (grown_alloc _ _ _) h2
  have I1 : Hid (IsRq u1 base q (rowG T 256)) := (HI.out.below (Go.Joins.below_alloc1 _ _)).grown h2 hbb
  have O1 : Hid (IsGo u1 0 gq GG) := fun i hi => by obtain ⟨g, a1, a2, a3, a4⟩ := hg i hi; exact ⟨g, a1, Nat.zero_le _, a3, a4⟩
  clear h1 h2 hg CO
  go_wp2_with fail
  refine (RO.out _ I1.out).mono ?_
  rintro e u2 ⟨⟨wq, wcap, rfl, hw⟩, hb2⟩
  have T2 : Hid (IsTab u2 b TN) := T1.out.below hb2
  have G2 : Hid (w.grownBy u2 (some b)) := grown_trans G1.out (grown_of_below hb2 _)
  have I2 : Hid (IsRq u2 base q (rowG T 256)) := I1.out.below hb2
  have O2 : Hid (IsGo u2 0 gq GG) := O1.out.below hb2
  have W2 : Hid (IsRq u2 0 wq WW) := hw.weak (Nat.zero_le _)
  clear hb2 hw x1 T1 G1 I1 O1 RO
  go_wp2_with fail
  go_loopw [1, 177] (fun s y W => ∃ (m sn sc : Nat) (sq : Option Addr), m ≤ n ∧ s = .slice sq sn sc ∧ y = .int .i64 m ∧ Hid ((rowG (clrL T (L.take m)) 256).length = sn) ∧ Hid (IsRq W base sq (rowG (clrL T (L.take m)) 256)) ∧ Hid (IsTab W b TN) ∧ Hid (w.grownBy W (some b)) ∧ Hid (IsGo W 0 gq GG) ∧ Hid (IsRq W 0 wq WW)) (fun _ y _ => n - (intOf y).toNat)
  case atStart => exact ⟨0, n0, c, q, by omega, rfl, rfl, HN0, I2, T2, G2, O2, W2⟩
  case round =>
    obtain ⟨m, sn, sc, sq, hm, rfl, rfl, HSN, hI3, hT3, hG3, hO3, hW3⟩ := hrel
    by_cases hlt : m < n
    · have hd : decide ((m : Int) < (n : Int)) = true := by simp; omega
      have m0 : (0 : Int) ≤ (m : Int) := by omega
      have m1 : (m : Int) < (n : Int) := by omega
      obtain ⟨gg, rfl, _, gg2, gc⟩ := hO3.out m (by rw [GL.out]; exact hlt)
      obtain ⟨wg, rfl, _, wg2, wc'⟩ := hW3.out m (by rw [WL.out]; exact hlt)
      rw [GA.out m hlt] at gc
      rw [WA.out m hlt] at wc'
      have HK : Hid (clrL T (L.take (m + 1)) = putT (clrL T (L.take m)) (L.getD m 0) Gr.zero) := by
        show _ = _
        have hkl : m < L.length := by rw [HN.out]; exact hlt
        rw [List.take_add_one, List.getElem?_eq_getElem hkl, List.getD, List.getElem?_eq_getElem hkl]
        exact clr_snoc _ _ _
      generalize L.getD m 0 = kk at gc wc' HK
      have WO2 := WO.out (clrL T (L.take m)) sq sc kk
      rw [← HK.out, HSN.out] at WO2
      have WO3 : Hid _ := WO2
      generalize T kk = l at gc wc'
      obtain ⟨gf, gp, gd, gw, gt, ga⟩ := l
      simp only [tellG] at wc'
      have y0 : wr.cell? ⟨wg, m * 7, none⟩ = some (.int .i64 (kk : Int)) := wc' 0 _ rfl
      have y1 : wr.cell? ⟨wg, m * 7 + 1, none⟩ = some (.int .i64 gf) := wc' 1 _ rfl
      have y2 : wr.cell? ⟨wg, m * 7 + 2, none⟩ = some (.int .i64 gp) := wc' 2 _ rfl
      have y3 : wr.cell? ⟨wg, m * 7 + 3, none⟩ = some (.int .i64 gd) := wc' 3 _ rfl
      have y4 : wr.cell? ⟨wg, m * 7 + 4, none⟩ = some (.bool gw) := wc' 4 _ rfl
      have y5 : wr.cell? ⟨wg, m * 7 + 5, none⟩ = some (.bool gt) := wc' 5 _ rfl
      have y6 : wr.cell? ⟨wg, m * 7 + 6, none⟩ = some (.int .i64 ga) := wc' 6 _ rfl
      have gc2 : Hid (∀ j x, ([.int .i64 gf, .int .i64 gp, .int .i64 gd, .bool gw, .bool gt, .int .i64 ga] : List Value)[j]? = some x → wr.cell? ⟨gg, m * 6 + j, none⟩ = some x) := gc
      clear gc wc' WO2
      go_wp2_with fail
      have CA : Hid ((∀ j x, ([.int .i64 gf, .int .i64 gp, .int .i64 gd, .bool gw, .bool gt, .int .i64 ga] : List Value)[j]? = some x → (wr.alloc (.cells #[.int .i64 (kk : Int), .int .i64 gf, .int .i64 gp, .int .i64 gd, .bool gw, .bool gt, .int .i64 ga] 41)).cell? ⟨gg, m * 6 + j, none⟩ = some x) ∧ (∀ j x, ([.int .i64 (kk : Int), .int .i64 gf, .int .i64 gp, .int .i64 gd, .bool gw, .bool gt, .int .i64 ga] : List Value)[j]? = some x → (wr.alloc (.cells #[.int .i64 (kk : Int), .int .i64 gf, .int .i64 gp, .int .i64 gd, .bool gw, .bool gt, .int .i64 ga] 41)).cell? ⟨wr.heap.size, j, none⟩ = some x)) := ⟨fun j x hx => (World.cell?_alloc_lt _ _ _ gg2).trans (gc2.out j x hx), fun j x hx => (Go.Joins.cell_of_block (own1 wr _) j).trans (by simpa using hx)⟩
      have TU : Hid (IsTab (wr.alloc (.cells #[.int .i64 (kk : Int), .int .i64 gf, .int .i64 gp, .int .i64 gd, .bool gw, .bool gt, .int .i64 ga] 41)).drew b TN) := (hT3.out.below (Go.Joins.below_alloc1 _ _)).drew
      have GU : Hid (w.grownBy (wr.alloc (.cells #[.int .i64 (kk : Int), .int .i64 gf, .int .i64 gp, .int .i64 gd, .bool gw, .bool gt, .int .i64 ga] 41)).drew (some b)) := grown_drew (grown_new hG3.out _)
      have IU : Hid (IsRq (wr.alloc (.cells #[.int .i64 (kk : Int), .int .i64 gf, .int .i64 gp, .int .i64 gd, .bool gw, .bool gt, .int .i64 ga] 41)).drew base sq (rowG (clrL T (L.take m)) 256)) := isrq_drew5 (hI3.out.below (Go.Joins.below_alloc1 _ _))
      have OU : Hid (IsGo (wr.alloc (.cells #[.int .i64 (kk : Int), .int .i64 gf, .int .i64 gp, .int .i64 gd, .bool gw, .bool gt, .int .i64 ga] 41)).drew 0 (some ⟨gg, 0, none⟩) GG) := isgo_drew5 (hO3.out.below (Go.Joins.below_alloc1 _ _))
      have WU : Hid (IsRq (wr.alloc (.cells #[.int .i64 (kk : Int), .int .i64 gf, .int .i64 gp, .int .i64 gd, .bool gw, .bool gt, .int .i64 ga] 41)).drew 0 (some ⟨wg, 0, none⟩) WW) := isrq_drew5 (hW3.out.below (Go.Joins.below_alloc1 _ _))
      have LU : Hid (gg < (wr.alloc (.cells #[.int .i64 (kk : Int), .int .i64 gf, .int .i64 gp, .int .i64 gd, .bool gw, .bool gt, .int .i64 ga] 41)).drew.heap.size ∧ wr.heap.size < (wr.alloc (.cells #[.int .i64 (kk : Int), .int .i64 gf, .int .i64 gp, .int .i64 gd, .bool gw, .bool gt, .int .i64 ga] 41)).drew.heap.size) := ⟨by show gg < (wr.alloc (.cells #[.int .i64 (kk : Int), .int .i64 gf, .int .i64 gp, .int .i64 gd, .bool gw, .bool gt, .int .i64 ga] 41)).heap.size; rw [World.size_alloc]; omega, by show wr.heap.size < (wr.alloc (.cells #[.int .i64 (kk : Int), .int .i64 gf, .int .i64 gp, .int .i64 gd, .bool gw, .bool gt, .int .i64 ga] 41)).heap.size; rw [World.size_alloc]; omega⟩
      have CU : Hid ((∀ j x, ([.int .i64 gf, .int .i64 gp, .int .i64 gd, .bool gw, .bool gt, .int .i64 ga] : List Value)[j]? = some x → (wr.alloc (.cells #[.int .i64 (kk : Int), .int .i64 gf, .int .i64 gp, .int .i64 gd, .bool gw, .bool gt, .int .i64 ga] 41)).drew.cell? ⟨gg, m * 6 + j, none⟩ = some x) ∧ (∀ j x, ([.int .i64 (kk : Int), .int .i64 gf, .int .i64 gp, .int .i64 gd, .bool gw, .bool gt, .int .i64 ga] : List Value)[j]? = some x → (wr.alloc (.cells #[.int .i64 (kk : Int), .int .i64 gf, .int .i64 gp, .int .i64 gd, .bool gw, .bool gt, .int .i64 ga] 41)).drew.cell? ⟨wr.heap.size, j, none⟩ = some x)) := CA.out
      refine wp_region_noPanic ?_
      refine wp_region_held_drew (S := fun c => (∀ j x, ([.int .i64 gf, .int .i64 gp, .int .i64 gd, .bool gw, .bool gt, .int .i64 ga] : List Value)[j]? = some x → c.cell? ⟨gg, m * 6 + j, none⟩ = some x) ∧ (∀ j x, ([.int .i64 (kk : Int), .int .i64 gf, .int .i64 gp, .int .i64 gd, .bool gw, .bool gt, .int .i64 ga] : List Value)[j]? = some x → c.cell? ⟨wr.heap.size, j, none⟩ = some x)) (by kernel_rfl) ?_ (fun hHeld => ?_)
      · exact CA.out
      have TC2 := TD.out ⟨gf, gp, gd, gw, gt, ga⟩ (kk : Int)
      have TC3 : Hid _ := TC2
      clear TC2 CA gc2 hI3 hT3 hG3 hO3 hW3 y0 y1 y2 y3 y4 y5 y6
      generalize (wr.alloc (.cells #[.int .i64 (kk : Int), .int .i64 gf, .int .i64 gp, .int .i64 gd, .bool gw, .bool gt, .int .i64 ga] 41)).drew = U at TU GU IU OU WU LU CU hHeld ⊢
      refine wpAnyH_take (i := 0) (oi := ⟨some 182, _, _, _, _, none⟩) (v := ?_) rfl (by kernel_rfl) (by kernel_rfl) (by kernel_rfl) (fun _ _ _ h => h) (Or.inl ⟨by rfl, ?_⟩) (by assumption) ?_
      rotate_left
      · intro w hSw; (try dsimp only at hSw); go_simp; (try with_reducible rfl)
      try simp only [Act.put, List.setIfInBounds_toArray, List.set_cons_zero, List.set_cons_succ]
      refine wpAnyH_take (i := 1) (oi := ⟨some 183, _, _, _, _, none⟩) (v := ?_) rfl (by kernel_rfl) (by kernel_rfl) (by kernel_rfl) (fun _ _ _ h => h) (Or.inl ⟨by rfl, ?_⟩) (by assumption) ?_
      rotate_left
      · intro w hSw; (try dsimp only at hSw); go_simp; (try with_reducible rfl)
      try simp only [Act.put, List.setIfInBounds_toArray, List.set_cons_zero, List.set_cons_succ]
      refine wpAnyH_take (i := 2) (oi := ⟨some 184, _, _, _, _, none⟩) (v := (.pointer (some ⟨gg, m * 6, none⟩))) rfl (by kernel_rfl) (by kernel_rfl) (by kernel_rfl) (fun _ _ _ h => h) (Or.inl ⟨by rfl, ?_⟩) (by assumption) ?_
      · intro w hSw; (try dsimp only at hSw); go_simp; (try simp); (try (simp only [IntKind.wrap_i64]; omega))
      try simp only [Act.put, List.setIfInBounds_toArray, List.set_cons_zero, List.set_cons_succ]
      refine wpAnyH_take (i := 3) (oi := ⟨some 185, _, _, _, _, none⟩) (v := .agg #[.int .i64 gf, .int .i64 gp, .int .i64 gd, .bool gw, .bool gt, .int .i64 ga]) rfl (by kernel_rfl) (by kernel_rfl) (by kernel_rfl) (fun _ _ _ h => h) (Or.inl ⟨by rfl, ?_⟩) (by assumption) ?_
      · intro w hSw; (try dsimp only at hSw); have q0 : w.cell? ⟨gg, m * 6, none⟩ = some (.int .i64 gf) := hSw.1 0 _ rfl; have q1 : w.cell? ⟨gg, m * 6 + 1, none⟩ = some (.int .i64 gp) := hSw.1 1 _ rfl; have q2 : w.cell? ⟨gg, m * 6 + 2, none⟩ = some (.int .i64 gd) := hSw.1 2 _ rfl; have q3 : w.cell? ⟨gg, m * 6 + 3, none⟩ = some (.bool gw) := hSw.1 3 _ rfl; have q4 : w.cell? ⟨gg, m * 6 + 4, none⟩ = some (.bool gt) := hSw.1 4 _ rfl; have q5 : w.cell? ⟨gg, m * 6 + 5, none⟩ = some (.int .i64 ga) := hSw.1 5 _ rfl; go_simp; (try simp)
      try simp only [Act.put, List.setIfInBounds_toArray, List.set_cons_zero, List.set_cons_succ]
      refine wpAnyH_take (i := 4) (oi := ⟨some 186, _, _, _, _, none⟩) (v := ?_) rfl (by kernel_rfl) (by kernel_rfl) (by kernel_rfl) (fun _ _ _ h => h) (Or.inl ⟨by rfl, ?_⟩) (by assumption) ?_
      rotate_left
      · intro w hSw; (try dsimp only at hSw); go_simp; (try with_reducible rfl)
      try simp only [Act.put, List.setIfInBounds_toArray, List.set_cons_zero, List.set_cons_succ]
      refine wpAnyH_take (i := 5) (oi := ⟨some 187, _, _, _, _, none⟩) (v := (.int .i64 (kk : Int))) rfl (by kernel_rfl) (by kernel_rfl) (by kernel_rfl) (fun _ _ _ h => h) (Or.inl ⟨by rfl, ?_⟩) (by assumption) ?_
      · intro w hSw; (try dsimp only at hSw); have q0 : w.cell? ⟨wr.heap.size, 0, none⟩ = some (.int .i64 (kk : Int)) := hSw.2 0 _ rfl; go_simp; (try simp)
      try simp only [Act.put, List.setIfInBounds_toArray, List.set_cons_zero, List.set_cons_succ]
      refine wpAnyH_take (i := 7) (oi := ⟨some 189, _, _, _, _, none⟩) (v := .agg #[.int .i64 (kk : Int), .int .i64 gf, .int .i64 gp, .int .i64 gd, .bool gw, .bool gt, .int .i64 ga]) rfl (by kernel_rfl) (by kernel_rfl) (by kernel_rfl) (fun _ _ _ h => h) (Or.inl ⟨by rfl, ?_⟩) (by assumption) ?_
      · intro w hSw; (try dsimp only at hSw); have q0 : w.cell? ⟨wr.heap.size, 0, none⟩ = some (.int .i64 (kk : Int)) := hSw.2 0 _ rfl; have q1 : w.cell? ⟨wr.heap.size, 1, none⟩ = some (.int .i64 gf) := hSw.2 1 _ rfl; have q2 : w.cell? ⟨wr.heap.size, 2, none⟩ = some (.int .i64 gp) := hSw.2 2 _ rfl; have q3 : w.cell? ⟨wr.heap.size, 3, none⟩ = some (.int .i64 gd) := hSw.2 3 _ rfl; have q4 : w.cell? ⟨wr.heap.size, 4, none⟩ = some (.bool gw) := hSw.2 4 _ rfl; have q5 : w.cell? ⟨wr.heap.size, 5, none⟩ = some (.bool gt) := hSw.2 5 _ rfl; have q6 : w.cell? ⟨wr.heap.size, 6, none⟩ = some (.int .i64 ga) := hSw.2 6 _ rfl; go_simp; (try simp)
      try simp only [Act.put, List.setIfInBounds_toArray, List.set_cons_zero, List.set_cons_succ]
      refine wpAnyH_ready (rs := [6]) (by kernel_rfl) (by simp) ?_
      refine AllReadyH.cons (o := ⟨some 188, _, _, _, _, none⟩) rfl (fun K hK => ?_) AllReadyH.nil
      go_simp
      go_wp2_with (go_at_call 15; refine (TC3.out _).mono ?_; rintro e v1 ⟨rfl, hb⟩)
      have T4 : Hid (IsTab v1 b TN) := TU.out.below hb
      have G4 : Hid (w.grownBy v1 (some b)) := grown_trans GU.out (grown_of_below hb _)
      have I4 : Hid (IsRq v1 base sq (rowG (clrL T (L.take m)) 256)) := IU.out.below hb
      have O4 : Hid (IsGo v1 0 (some ⟨gg, 0, none⟩) GG) := OU.out.below hb
      have W4 : Hid (IsRq v1 0 (some ⟨wg, 0, none⟩) WW) := WU.out.below hb
      have C1 : Hid ((∀ j x, ([.int .i64 gf, .int .i64 gp, .int .i64 gd, .bool gw, .bool gt, .int .i64 ga] : List Value)[j]? = some x → v1.cell? ⟨gg, m * 6 + j, none⟩ = some x) ∧ (∀ j x, ([.int .i64 (kk : Int), .int .i64 gf, .int .i64 gp, .int .i64 gd, .bool gw, .bool gt, .int .i64 ga] : List Value)[j]? = some x → v1.cell? ⟨wr.heap.size, j, none⟩ = some x)) := ⟨fun j x hx => (hb.cell (p := ⟨gg, m * 6 + j, none⟩) LU.out.1).trans (CU.out.1 j x hx), fun j x hx => (hb.cell (p := ⟨wr.heap.size, j, none⟩) LU.out.2).trans (CU.out.2 j x hx)⟩
      have lv : wr.heap.size < v1.heap.size := Nat.lt_of_lt_of_le LU.out.2 hb.size
      clear hb hHeld TU GU IU OU WU LU CU
      refine hK.out _ _ C1.out (fun hHeld => ?_)
      clear hK K
      try simp only [Act.put, List.setIfInBounds_toArray, List.set_cons_zero, List.set_cons_succ]
      refine wpAnyH_take (i := 8) (oi := ⟨some 190, _, _, _, _, none⟩) (v := .bool false) rfl (by kernel_rfl) (by kernel_rfl) (by kernel_rfl) (fun _ _ _ h => h) (Or.inl ⟨by rfl, ?_⟩) (by assumption) ?_
      · intro w hSw; (try dsimp only at hSw); go_simp; (try simp); (try (simp only [IntKind.wrap_i64]; omega))
      try simp only [Act.put, List.setIfInBounds_toArray, List.set_cons_zero, List.set_cons_succ]
      have x0 : v1.cell? ⟨wr.heap.size, 0, none⟩ = some (.int .i64 (kk : Int)) := C1.out.2 0 _ rfl
      clear hHeld C1
      refine wpAnyH_done (by kernel_rfl) ?_ _
      refine NoPanic.normal ?_
      go_wp2_with fail
      refine (WO3.out _ I4.out).mono ?_
      rintro e v2 ⟨⟨p', c', rfl, hI'⟩, hb⟩
      have T5 : Hid (IsTab v2 b TN) := T4.out.below hb
      have G5 : Hid (w.grownBy v2 (some b)) := grown_trans G4.out (grown_of_below hb _)
      have I5 : Hid (IsRq v2 base p' (rowG (clrL T (L.take (m + 1))) 256)) := hI'.weak (Nat.le_trans hbw G4.out.size)
      have O5 : Hid (IsGo v2 0 (some ⟨gg, 0, none⟩) GG) := O4.out.below hb
      have W5 : Hid (IsRq v2 0 (some ⟨wg, 0, none⟩) WW) := W4.out.below hb
      clear hb hI' T4 G4 I4 O4 W4 x0
      obtain ⟨sn2, hsn2⟩ : ∃ z, (rowG (clrL T (L.take (m + 1))) 256).length = z := ⟨_, rfl⟩
      have HS2 : Hid ((rowG (clrL T (L.take (m + 1))) 256).length = sn2) := hsn2
      rw [hsn2]
      clear hsn2
      go_wp2_with fail
      go_roundw
      case rel => exact ⟨m + 1, sn2, c', p', by omega, rfl, by go_num, HS2, I5, T5, G5, O5, W5⟩
      case measure => simp [intOf]; omega
    · have hd : decide ((m : Int) < (n : Int)) = false := by simp; omega
      obtain rfl : m = n := by omega
      have hL : L.take m = L := by rw [← HN.out, List.take_length]
      rw [hL, HTN.out, HR2.out] at hI3 HSN
      have hs : R2.length = sn := HSN.out
      subst hs
      go_wp2_with fail
      go_returns
      first | exact ⟨⟨sq, sc, rfl, hI3.out⟩, hT3.out, hG3.out⟩ | exact ⟨⟨sq, ⟨sc, rfl⟩, hI3.out⟩, hT3.out, hG3.out⟩
end Go.Proofs.Ytenfdcjnfgjilaa
