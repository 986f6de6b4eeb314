/- Boot maps: Merge. -/
import Derived.Test.YtpfcpmhpekidkaaO5
import Derived.Sort.BigQuietIn
namespace Go.Proofs.Ytpfcpmhpekidkaa.Bm
open Go.ChangeShapes Go.WideShapes Go.ChangeAt Go.RowKit Go.Maps
set_option linter.unusedSimpArgs false
set_option linter.unusedVariables false
set_option maxRecDepth 8000

theorem set_after {α : Type} (A : List α) (x y z : α) : (A ++ [x, y]).set (A.length + 1) z = A ++ [x, z] := by
  rw [List.set_append_right _ _ (by omega), show A.length + 1 - A.length = 1 by omega]; rfl
/-- the last range of an owned list ends elsewhere -/
theorem or_last {w : World} {base : Nat} {v : Value} {M : List (Int × Int)} {q : Int × Int} (O : OR w base v (M ++ [q])) : ∃ g c, v = .slice (some ⟨g, 0, none⟩) (M.length + 1) c ∧ base ≤ g ∧ g < w.heap.size ∧
    w.cell? ⟨g, M.length * 2, none⟩ = some (.int .i64 q.1) ∧ w.cell? ⟨g, M.length * 2 + 1, none⟩ = some (.int .i64 q.2) ∧ w.frozen? ⟨g, M.length * 2 + 1, none⟩ = false ∧ M.length < c ∧ ∀ t : Int, OR (w.setCell ⟨g, M.length * 2 + 1, none⟩ (.int .i64 t)) base v (M ++ [(q.1, t)]) := by
  have hc := fun g (hg : v.ownBlock = some g) => World.ownsRow.cells (g := g) O hg
  obtain ⟨hl', ⟨hv, h0⟩ | ⟨g, cap, cur, hv, hb, hblk, hcap, hmx, hsz, htk⟩⟩ := O
  · simp at h0
  · have lm : (M ++ [q]).length = M.length + 1 := by simp
    have fl : (M ++ [q]).flatMap eR = M.flatMap eR ++ [.int .i64 q.1, .int .i64 q.2] := by simp [List.flatMap_append, eR]
    have ll := flat_len eR_len M
    have c0 := hc g (by rw [hv]; rfl) (M.length * 2) (.int .i64 q.1) (by rw [fl, List.getElem?_append_right (by omega), ll]; simp)
    have c1 := hc g (by rw [hv]; rfl) (M.length * 2 + 1) (.int .i64 q.2) (by rw [fl, List.getElem?_append_right (by omega), ll]; simp)
    rw [Addr.add_mid, Nat.zero_add] at c0 c1
    rw [lm] at hv hcap
    refine ⟨g, cap, hv, hb, blk_lt hblk, c0, c1, Go.Joins.unfrozen_of_block hblk _, by omega, fun t => ⟨?_, Or.inr ⟨g, cap, cur.setIfInBounds (M.length * 2 + 1) (.int .i64 t), ?_, hb, Go.Joins.block_setCell hblk _, ?_, hmx, ?_, ?_⟩⟩⟩
    · rw [flat_len eR_len]
    · rw [hv]; simp
    · simp; omega
    · rw [Array.size_setIfInBounds]; exact hsz
    · have fl2 : (M ++ [(q.1, t)]).flatMap eR = M.flatMap eR ++ [.int .i64 q.1, .int .i64 t] := by simp [List.flatMap_append, eR]
      rw [fl2, ← set_after (M.flatMap eR) (.int .i64 q.1) (.int .i64 q.2) (.int .i64 t), ← fl, ← htk, ll, Array.toList_setIfInBounds, List.take_set]
      simp
theorem mrgL_next (S : List (Int × Int)) (k : Nat) (h : k < S.length) : mrgL (S.take (k + 1)) = mrg1 (mrgL (S.take k)) S[k] := by
  unfold mrgL
  rw [List.take_succ_eq_append_getElem h, List.foldl_append]; rfl
theorem mrg1_len (M : List (Int × Int)) (r : Int × Int) : (mrg1 M r).length ≤ M.length + 1 := by
  by_cases c : r.2 ≤ r.1
  · rw [mrg1_empty c]; omega
  · rcases nil_or_snoc M with e | ⟨M', q, e⟩
    · subst e; rw [mrg1_first (by omega)]; simp
    · subst e
      by_cases d : r.1 ≤ q.2
      · rw [mrg1_meet (by omega) d]; simp
      · rw [mrg1_new (by omega) (by omega)]; simp
theorem mrgL_len : ∀ (S : List (Int × Int)), (mrgL S).length ≤ S.length := by
  have : ∀ (S M : List (Int × Int)), (S.foldl mrg1 M).length ≤ M.length + S.length := by
    intro S
    induction S with
    | nil => intro M; simp
    | cons r S ih => intro M; rw [List.foldl_cons, List.length_cons]; have := ih (mrg1 M r); have := mrg1_len M r; omega
  intro S
  have := this S []
  simpa [mrgL] using this
set_option maxHeartbeats 4000000 in
theorem merge_any (lo : Nat) (v : Value) (L : List (Int × Int)) (hL : L.length ≤ 100000) (w : World) (H : RL w lo v L) :
    Calls Try.prog 24 #[v] w fun e w' => ∃ v' M, e = .returned v' ∧ OR w' w.heap.size v' M ∧ Can M ∧ (∀ n, Has M n ↔ Has L n) ∧ M.length ≤ L.length ∧ Below w.heap.size w w' := by
  have CC : Hid _ := clone_any lo v L (by omega) w H
  have SC : Hid (∀ (v1 : Value) (W : World), OR W w.heap.size v1 L → w.heap.size ≤ W.heap.size → _) := fun v1 W O hb => sort_any w.heap.size v1 L (by omega) W O hb
  clear H
  go_enter Try.func24, Try.ntmps24
  go_wp2_with fail
  refine Calls.mono CC.out ?_
  rintro e w1 ⟨v1, rfl, O1, B1⟩
  have HO1 : Hid (OR w1 w.heap.size v1 L) := O1
  have HB1 : Hid (Below w.heap.size w w1) := B1
  clear O1 B1 CC
  go_wp2_with fail
  refine Calls.mono (SC.out v1 w1 HO1.out HB1.out.size) ?_
  rintro e w2 ⟨rfl, S, pS, sS, R2, B2⟩
  have HB2 : Hid (Below w.heap.size w w2) := HB1.out.trans B2
  obtain ⟨p1, c1, hv1, hc1, _, rd⟩ := R2.form
  have RD : Hid (∀ i (hi : i < S.length), ∃ g o, p1 = some ⟨g, o, none⟩ ∧ w.heap.size ≤ g ∧ g < w2.heap.size ∧ ∀ j, j < 2 → w2.cell? ⟨g, o + i * 2 + j, none⟩ = (eR S[i])[j]?) := rd
  obtain ⟨n, hn⟩ : ∃ n, S.length = n := ⟨_, rfl⟩
  have HN : Hid (S.length = n) := hn
  have n9 : n ≤ 100000 := by rw [← hn, pS.length_eq]; exact hL
  rw [hn] at hv1
  subst hv1
  have HS : Hid (S.Perm L ∧ S.Pairwise (fun a b => a.1 ≤ b.1)) := ⟨pS, sS⟩
  clear rd R2 B2 HO1 HB1 SC hn hc1 pS sS hL
  go_wp2_with fail
  go_loopw [4, 14] (fun v i W => ∃ k : Nat, k ≤ n ∧ i = .int .i64 k ∧ Hid (OR W w2.heap.size v (mrgL (S.take k)) ∧ Below w2.heap.size w2 W)) (fun _ i _ => n - (Go.RowKit.intOf i).toNat)
  case atStart => exact ⟨0, by omega, rfl, ol_none _ _ _ _ _, Below.refl _ _⟩
  case round =>
    obtain ⟨k, hk, rfl, J⟩ := hrel
    by_cases ck : k < n
    rotate_left
    · obtain rfl : k = n := by omega
      have d1 : decide ((k : Int) < (k : Int)) = false := by simp
      go_wp2_with fail
      go_ret
      have M := mrg_any S HS.out.2
      have e : S.take k = S := by rw [← HN.out, List.take_length]
      have j1 := J.out.1
      rw [e] at j1
      exact ⟨u4, mrgL S, rfl, row_weak j1 HB2.out.size, M.1, fun x => (M.2 x).trans (has_perm HS.out.1 x), by have := mrgL_len S; rw [← HS.out.1.length_eq]; exact this, below_then HB2.out J.out.2⟩
    have d1 : decide ((k : Int) < (n : Int)) = true := by simp; omega
    have d0 : decide ((k : Int) < 0) = false := by simp
    have kS : k < S.length := by rw [HN.out]; exact ck
    obtain ⟨g, og, rfl, _, lg, rc⟩ := RD.out k kS
    have y0 : wr.cell? ⟨g, og + k * 2, none⟩ = some (.int .i64 S[k].1) := (World.cell?_of_block (J.out.2.block g lg)).trans (rc 0 (by omega))
    have y1 : wr.cell? ⟨g, og + k * 2 + 1, none⟩ = some (.int .i64 S[k].2) := (World.cell?_of_block (J.out.2.block g lg)).trans (rc 1 (by omega))
    have lgr : g < wr.heap.size := Nat.lt_of_lt_of_le lg J.out.2.size
    have NX : Hid (mrgL (S.take (k + 1)) = mrg1 (mrgL (S.take k)) S[k]) := mrgL_next S k kS
    have ML : Hid ((mrgL (S.take k)).length ≤ 100000) := by
      have := mrgL_len (S.take k)
      rw [List.length_take] at this
      show _ ≤ _
      omega
    obtain ⟨M', hM'⟩ : ∃ M', mrgL (S.take (k + 1)) = M' := ⟨_, rfl⟩
    rw [hM'] at NX
    have HM' : Hid (mrgL (S.take (k + 1)) = M') := hM'
    generalize mrgL (S.take k) = M at J NX ML
    obtain ⟨a, ha⟩ : ∃ a, S[k].1 = a := ⟨_, rfl⟩
    obtain ⟨b, hb⟩ : ∃ b, S[k].2 = b := ⟨_, rfl⟩
    have er : S[k] = (a, b) := by rw [← ha, ← hb]
    rw [er] at NX y0 y1
    clear rc lg hM' ha hb er
    have JB : Hid (OR (wr.alloc (.cells #[.int .i64 a, .int .i64 b] 30)) w2.heap.size u4 M ∧ Below w2.heap.size w2 (wr.alloc (.cells #[.int .i64 a, .int .i64 b] 30))) := ⟨row_below J.out.1 (Go.Joins.below_alloc1 _ _), below_new J.out.2 _⟩
    by_cases c1 : b ≤ a
    · have e1 : decide (b ≤ a) = true := by simp [c1]
      have J2 : Hid (OR (wr.alloc (.cells #[.int .i64 a, .int .i64 b] 30)) w2.heap.size u4 (mrgL (S.take (k + 1))) ∧ Below w2.heap.size w2 (wr.alloc (.cells #[.int .i64 a, .int .i64 b] 30))) := by
        have := NX.out; rw [mrg1_empty c1] at this
        rw [HM'.out, this]; exact JB.out
      obtain ⟨pm, cm, hvm, hcm, _, _⟩ := (ol_ll eR_len J.out.1).form
      generalize M.length = ml at hvm
      subst hvm
      clear J JB NX ML
      go_wp2_with fail
      go_roundw
      case rel => exact ⟨k + 1, by omega, by go_num, J2⟩
      case measure => simp [Go.RowKit.intOf]; omega
    · have e1 : decide (b ≤ a) = false := by simp; omega
      rcases nil_or_snoc M with eM | ⟨M0, q, eM⟩
      · subst eM
        obtain ⟨pm, cm, hvm, hcm, _, _⟩ := (ol_ll eR_len J.out.1).form
        obtain ⟨ml, hml⟩ : ∃ ml, ml = 0 := ⟨0, rfl⟩
        have hvm : u4 = .slice pm 0 cm := hvm
        rw [← hml] at hvm
        subst hvm
        have HML : Hid (ml = 0) := hml
        have z1 : decide ((0 : Int) ≤ -1) = false := by decide
        clear J
        subst hml
        go_upto_region 10 with fail
        go_quiet (fail)
        have JX : Hid (OR ((wr.alloc (.cells #[.int .i64 a, .int .i64 b] 30)).drewN nq) w2.heap.size (.slice pm 0 cm) [] ∧ Below w2.heap.size w2 ((wr.alloc (.cells #[.int .i64 a, .int .i64 b] 30)).drewN nq)) := ⟨row_below JB.out.1 (below_drewN (Below.refl _ _)), below_drewN JB.out.2⟩
        have z0 : ((wr.alloc (.cells #[.int .i64 a, .int .i64 b] 30)).drewN nq).cell? ⟨wr.heap.size, 0, none⟩ = some (.int .i64 a) := (Blk.made wr [.int .i64 a, .int .i64 b] 30).cell 0
        have z1 : ((wr.alloc (.cells #[.int .i64 a, .int .i64 b] 30)).drewN nq).cell? ⟨wr.heap.size, 1, none⟩ = some (.int .i64 b) := (Blk.made wr [.int .i64 a, .int .i64 b] 30).cell 1
        have qn : wr.heap.size < ((wr.alloc (.cells #[.int .i64 a, .int .i64 b] 30)).drewN nq).heap.size := by show _ < (wr.alloc (.cells #[.int .i64 a, .int .i64 b] 30)).heap.size; rw [World.size_alloc]; omega
        clear JB lgr y0 y1
        generalize (wr.alloc (.cells #[.int .i64 a, .int .i64 b] 30)).drewN nq = X at JX z0 z1 qn ⊢
        generalize wr.heap.size = q at z0 z1 qn ⊢
        obtain ⟨v', W2, r, ho, hg, _⟩ := app_row eR_len eR_one (by decide) Try.underlying25 infoR rfl (by decide) w2.heap.size (.slice pm 0 cm) [] (a, b) (by simp) X JX.out.1 JX.out.2.size
        have J2 : Hid (OR W2 w2.heap.size v' (mrgL (S.take (k + 1))) ∧ Below w2.heap.size w2 W2) := by
          have := NX.out; rw [mrg1_first (by show a < b; omega)] at this
          rw [HM'.out, this]
          exact ⟨ho, (below_new JX.out.2 _).grown hg (by rw [World.size_alloc]; have := JX.out.2.size; omega) (fun g e => (row_lt JX.out.1 g e).1)⟩
        clear JX NX ML ho hg
        go_wp2_with (at_builtin; refine wpList_app rfl _ _ 25 rfl (.slice pm 0 cm) (.slice (some ⟨X.heap.size, 0, none⟩) 1 1) rfl rfl v' W2 r ?_)
        go_roundw
        case rel => exact ⟨k + 1, by omega, by go_num, J2⟩
        case measure => simp [Go.RowKit.intOf]; omega
      · subst eM
        obtain ⟨gm, cm, hvm, bgm, lgm, k0, k1, kf, mc, kset⟩ := or_last J.out.1
        obtain ⟨q1, q2⟩ := q
        simp only at k0 k1
        have b0 := World.cell?_of_block (w := wr) (a := ⟨gm, M0.length * 2 + 1, none⟩) ((Go.Joins.below_alloc1 wr (.cells #[.int .i64 a, .int .i64 b] 30)).block gm lgm)
        have KS : Hid (∀ (Y : World), OR Y w2.heap.size (.slice (some ⟨gm, 0, none⟩) (M0.length + 1) cm) (M0 ++ [(q1, q2)]) → ∀ t : Int, OR (Y.setCell ⟨gm, M0.length * 2 + 1, none⟩ (.int .i64 t)) w2.heap.size (.slice (some ⟨gm, 0, none⟩) (M0.length + 1) cm) (M0 ++ [(q1, t)])) := fun Y hY t => by
          obtain ⟨g', c', e', _, _, _, _, _, _, ks⟩ := or_last hY
          cases e'
          exact ks t
        have ML0 : Hid (M0.length + 1 ≤ 100000) := by have := ML.out; simp at this; show _ ≤ _; omega
        obtain ⟨ml, hml⟩ : ∃ ml, M0.length = ml := ⟨_, rfl⟩
        rw [hml] at hvm k0 k1 KS ML0 b0 kf
        have HML : Hid (M0.length = ml) := hml
        subst hvm
        have ml9 : ml + 1 ≤ 100000 := ML0.out
        have kx : (wr.alloc (.cells #[.int .i64 a, .int .i64 b] 30)).cell? ⟨gm, ml * 2 + 1, none⟩ = some (.int .i64 q2) := b0.trans k1
        have kxf : (wr.alloc (.cells #[.int .i64 a, .int .i64 b] 30)).frozen? ⟨gm, ml * 2 + 1, none⟩ = false := (World.frozen?_of_block (w := wr) (a := ⟨gm, ml * 2 + 1, none⟩) ((Go.Joins.below_alloc1 wr (.cells #[.int .i64 a, .int .i64 b] 30)).block gm lgm)).trans kf
        have i0 : decide ((0 : Int) ≤ (ml : Int)) = true := by simp
        have i1 : decide ((ml : Int) < 0) = false := by simp
        have i2 : decide ((ml : Int) < (ml : Int) + 1) = true := by simp; omega
        have lgx : gm < (wr.alloc (.cells #[.int .i64 a, .int .i64 b] 30)).heap.size := by rw [World.size_alloc]; omega
        have ng : gm ≠ wr.heap.size := by omega
        clear J ML hml b0 k0 k1 mc kset kf lgm
        by_cases c2 : a ≤ q2
        · have e2 : decide (a ≤ q2) = true := by simp [c2]
          go_upto_region 10 with fail
          go_quiet (fail)
          have kx2 : ((wr.alloc (.cells #[.int .i64 a, .int .i64 b] 30)).drewN nq).cell? ⟨gm, ml * 2 + 1, none⟩ = some (.int .i64 q2) := kx
          have kxf2 : ((wr.alloc (.cells #[.int .i64 a, .int .i64 b] 30)).drewN nq).frozen? ⟨gm, ml * 2 + 1, none⟩ = false := kxf
          clear kx kxf lgx
          have ng2 : wr.heap.size ≠ gm := Ne.symm ng
          have JX : Hid (OR ((wr.alloc (.cells #[.int .i64 a, .int .i64 b] 30)).drewN nq) w2.heap.size (.slice (some ⟨gm, 0, none⟩) (ml + 1) cm) (M0 ++ [(q1, q2)]) ∧ Below w2.heap.size w2 ((wr.alloc (.cells #[.int .i64 a, .int .i64 b] 30)).drewN nq)) := ⟨row_below JB.out.1 (below_drewN (Below.refl _ _)), below_drewN JB.out.2⟩
          have z0 : ((wr.alloc (.cells #[.int .i64 a, .int .i64 b] 30)).drewN nq).cell? ⟨wr.heap.size, 0, none⟩ = some (.int .i64 a) := (Blk.made wr [.int .i64 a, .int .i64 b] 30).cell 0
          have z1 : ((wr.alloc (.cells #[.int .i64 a, .int .i64 b] 30)).drewN nq).cell? ⟨wr.heap.size, 1, none⟩ = some (.int .i64 b) := (Blk.made wr [.int .i64 a, .int .i64 b] 30).cell 1
          have qn : wr.heap.size < ((wr.alloc (.cells #[.int .i64 a, .int .i64 b] 30)).drewN nq).heap.size := by show _ < (wr.alloc (.cells #[.int .i64 a, .int .i64 b] 30)).heap.size; rw [World.size_alloc]; omega
          clear JB lgr y0 y1
          generalize (wr.alloc (.cells #[.int .i64 a, .int .i64 b] 30)).drewN nq = X at JX z0 z1 qn kx2 kxf2 ⊢
          generalize wr.heap.size = q at z0 z1 qn ng ng2 ⊢
          have END : Hid (∀ m, m = max q2 b → OR (X.setCell ⟨gm, ml * 2 + 1, none⟩ (.int .i64 m)) w2.heap.size (.slice (some ⟨gm, 0, none⟩) (ml + 1) cm) (mrgL (S.take (k + 1))) ∧ Below w2.heap.size w2 (X.setCell ⟨gm, ml * 2 + 1, none⟩ (.int .i64 m))) := fun m hm => by
            have := NX.out; rw [mrg1_meet (by show a < b; omega) c2] at this
            rw [HM'.out, this]
            have hh := KS.out X JX.out.1 m
            rw [hm] at hh ⊢
            exact ⟨hh, JX.out.2.setCell (p := ⟨gm, ml * 2 + 1, none⟩) bgm _⟩
          clear JX NX KS HML HM'
          have J2 : Hid _ := END.out (max q2 b) rfl
          clear END
          go_wp2_with fail
          go_region
          go_wp2_with fail
          go_roundw
          case rel => exact ⟨k + 1, by omega, by go_num, row_below J2.out.1 (below_drew (Below.refl _ _)), below_drew J2.out.2⟩
          case measure => simp [Go.RowKit.intOf]; omega
        · have e2 : decide (a ≤ q2) = false := by simp; omega
          go_upto_region 10 with fail
          go_quiet (fail)
          clear kx kxf lgx
          have JX : Hid (OR ((wr.alloc (.cells #[.int .i64 a, .int .i64 b] 30)).drewN nq) w2.heap.size (.slice (some ⟨gm, 0, none⟩) (ml + 1) cm) (M0 ++ [(q1, q2)]) ∧ Below w2.heap.size w2 ((wr.alloc (.cells #[.int .i64 a, .int .i64 b] 30)).drewN nq)) := ⟨row_below JB.out.1 (below_drewN (Below.refl _ _)), below_drewN JB.out.2⟩
          have z0 : ((wr.alloc (.cells #[.int .i64 a, .int .i64 b] 30)).drewN nq).cell? ⟨wr.heap.size, 0, none⟩ = some (.int .i64 a) := (Blk.made wr [.int .i64 a, .int .i64 b] 30).cell 0
          have z1 : ((wr.alloc (.cells #[.int .i64 a, .int .i64 b] 30)).drewN nq).cell? ⟨wr.heap.size, 1, none⟩ = some (.int .i64 b) := (Blk.made wr [.int .i64 a, .int .i64 b] 30).cell 1
          clear JB lgr y0 y1 ng
          generalize (wr.alloc (.cells #[.int .i64 a, .int .i64 b] 30)).drewN nq = X at JX z0 z1 ⊢
          generalize wr.heap.size = q at z0 z1 ⊢
          obtain ⟨v', W2, r, ho, hg, _⟩ := app_row eR_len eR_one (by decide) Try.underlying25 infoR rfl (by decide) w2.heap.size (.slice (some ⟨gm, 0, none⟩) (ml + 1) cm) (M0 ++ [(q1, q2)]) (a, b) (by have := HML.out; simp; omega) X JX.out.1 JX.out.2.size
          have J2 : Hid (OR W2 w2.heap.size v' (mrgL (S.take (k + 1))) ∧ Below w2.heap.size w2 W2) := by
            have := NX.out; rw [mrg1_new (by show a < b; omega) (by show q2 < a; omega)] at this
            rw [HM'.out, this]
            exact ⟨ho, (below_new JX.out.2 _).grown hg (by rw [World.size_alloc]; have := JX.out.2.size; omega) (fun g e => (row_lt JX.out.1 g e).1)⟩
          clear JX NX ho hg KS
          go_wp2_with (at_builtin; refine wpList_app rfl _ _ 25 rfl (.slice (some ⟨gm, 0, none⟩) (ml + 1) cm) (.slice (some ⟨X.heap.size, 0, none⟩) 1 1) rfl rfl v' W2 r ?_)
          go_roundw
          case rel => exact ⟨k + 1, by omega, by go_num, J2⟩
          case measure => simp [Go.RowKit.intOf]; omega
end Go.Proofs.Ytpfcpmhpekidkaa.Bm
