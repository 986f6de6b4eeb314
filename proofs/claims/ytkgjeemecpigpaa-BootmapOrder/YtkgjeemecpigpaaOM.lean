/- Boot maps: the document's Less. -/
import Derived.Test.YtkgjeemecpigpaaOK
namespace Go.Proofs.Ytkgjeemecpigpaa.Bm
open Go.ChangeShapes Go.WideShapes Go.ChangeAt Go.RowKit Go.Maps
set_option linter.unusedSimpArgs false
set_option linter.unusedVariables false
set_option maxRecDepth 8000

theorem wp_app {P : Program} {o : Oper} {a : Act} {w : World} {K : Act → World → Prop} {Q : Exit → Act → World → Prop} (s x : Operand) (t : TypeId)
    (ho : o.op = .call { callee := .builtin .append, args := #[s, x], argTypes := #[t, t] }) (vs vx : Value) (hs : a.eval s = vs) (hx : a.eval x = vx) (v' : Value) (w1 : World)
    (hr : (Builtin.append_ #[t, t] o.type #[vs, vx]).run P w = .ok v' w1) (h : K (a.put o.dst v') w1) : o.wp P a w K Q := by
  unfold Oper.wp execOp
  simp only [ho, resolve, invoke, builtin, Sem.run_bind, Sem.run_pure, Result.andThen_ok, List.map_toArray, List.map_cons, List.map_nil, hs, hx, hr]
  exact h
theorem dec_is (p : Prop) (inst : Decidable p) (z : Bool) (h : z = true ↔ p) : @decide p inst = z := by
  cases z with
  | false => exact @decide_eq_false p inst (fun q => absurd (h.2 q) (by simp))
  | true => exact @decide_eq_true p inst (h.1 rfl)
/-- ranges in the making beside the ends -/
structure LS (w : World) (pe : Option Addr) (ne ce : Nat) (E : List Int) (v : Value) (O : List (Int × Int)) (W : World) : Prop where
  own : OR W w.heap.size v O
  ends : IL W 0 (.slice pe ne ce) E
  far : ∀ g, v.ownBlock = some g → ∀ o, pe ≠ some ⟨g, o, none⟩
  bel : Below w.heap.size w W
theorem LS.below {w W W' : World} {pe : Option Addr} {ne ce : Nat} {E : List Int} {v : Value} {O : List (Int × Int)} (H : LS w pe ne ce E v O W) (hb : Below W.heap.size W W') : LS w pe ne ce E v O W' :=
  ⟨row_below H.own hb, H.ends.below hb, H.far, below_then H.bel hb⟩
theorem ends_far {W W' : World} {pe : Option Addr} {ne ce : Nat} {E : List Int} (H : IL W 0 (.slice pe ne ce) E) (hs : W.heap.size ≤ W'.heap.size) (hb : ∀ g, (∃ o, pe = some ⟨g, o, none⟩) → g < W.heap.size → W'.heap[g]? = W.heap[g]?) : IL W' 0 (.slice pe ne ce) E := by
  rcases H with h | ⟨g, o, c, hv, hc, l0, lg, h⟩
  · exact Or.inl h
  · refine Or.inr ⟨g, o, c, hv, hc, l0, Nat.lt_of_lt_of_le lg hs, fun i hi j hj => ?_⟩
    have e : pe = some ⟨g, o, none⟩ := by cases hv; rfl
    rw [World.cell?_of_block (w := W) (a := ⟨g, o + i * 1 + j, none⟩) (hb g ⟨o, e⟩ lg)]; exact h i hi j hj
theorem LS.app {w W : World} {pe : Option Addr} {ne ce : Nat} {E : List Int} {v : Value} {O : List (Int × Int)} (H : LS w pe ne ce E v O W) (hO : O.length ≤ 1048576) (x : Int × Int) :
    ∃ v' W2, (Builtin.append_ #[38, 38] 38 #[v, .slice (some ⟨W.heap.size, 0, none⟩) 1 1]).run Try.prog (W.alloc (.cells #[.int .i64 x.1, .int .i64 x.2] 44)) = .ok v' W2 ∧ LS w pe ne ce E v' (O ++ [x]) W2 := by
  obtain ⟨v', W2, r, ho, hg, hat⟩ := app_row eR_len eR_one (by decide) Try.underlying38 infoR rfl (by decide) w.heap.size v O x hO W H.own H.bel.size
  have E1 := H.ends.below (Go.Joins.below_alloc1 W (.cells (eR x).toArray 44))
  refine ⟨v', W2, r, ho, ends_far E1 hg.size (fun g ⟨o, e⟩ lg => hg.block g lg (fun q => H.far g q.symm o e)), fun g e o q => ?_, (below_new H.bel _).grown hg (by rw [World.size_alloc]; have := H.bel.size; omega) (fun g e => (row_lt H.own g e).1)⟩
  rcases hat with h | h
  · exact H.far g (by rw [← h]; exact e) o q
  · rw [h] at e
    have e2 := Option.some.inj e
    rcases H.ends with ⟨h1, _⟩ | ⟨g', o', c', hv, _, _, lg, _⟩
    · cases h1; cases q
    · cases hv; cases q; omega
theorem LS.last {w W : World} {pe : Option Addr} {ne ce : Nat} {E : List Int} {v : Value} {M : List (Int × Int)} {q : Int × Int} (H : LS w pe ne ce E v (M ++ [q]) W) :
    ∃ g c, v = .slice (some ⟨g, 0, none⟩) (M.length + 1) c ∧ (∀ o, pe ≠ some ⟨g, o, none⟩) ∧ W.cell? ⟨g, M.length * 2 + 1, none⟩ = some (.int .i64 q.2) ∧ W.frozen? ⟨g, M.length * 2 + 1, none⟩ = false ∧ M.length < c ∧ ∀ t : Int, LS w pe ne ce E v (M ++ [(q.1, t)]) (W.setCell ⟨g, M.length * 2 + 1, none⟩ (.int .i64 t)) := by
  obtain ⟨g, c, hv, bg, lg, k0, k1, kf, mc, ks⟩ := or_last H.own
  have hf : ∀ o, pe ≠ some ⟨g, o, none⟩ := fun o => H.far g (by rw [hv]; rfl) o
  refine ⟨g, c, hv, hf, k1, kf, mc, fun t => ⟨ks t, ends_far H.ends (by rw [World.size_setCell]; exact Nat.le_refl _) (fun b ⟨o, e⟩ lb => Below.heap_setCell _ _ _ _ (fun q => hf o (e.trans (congrArg (fun z => some (Addr.mk z o none)) (q))))), H.far, H.bel.setCell (p := ⟨g, M.length * 2 + 1, none⟩) bg _⟩⟩
theorem LS.cells {w W : World} {g o ne ce kk : Nat} {E : List Int} {v : Value} {O : List (Int × Int)} {x y : Int} (H : LS w (some ⟨g, o, none⟩) ne ce E v O W) (h : kk < E.length) (h1 : kk + 1 < E.length) (hx : E[kk]? = some x) (hy : E[kk + 1]? = some y) : W.cell? ⟨g, o + kk, none⟩ = some (.int .i64 x) ∧ W.cell? ⟨g, o + kk + 1, none⟩ = some (.int .i64 y) := by
  rcases H.ends with ⟨e, _⟩ | ⟨g', o', c', hv, hc, l0, lg, r⟩
  · cases e
  · cases hv
    have r0 := r kk h 0 (by omega)
    have r1 := r (kk + 1) h1 0 (by omega)
    rw [List.getElem?_eq_getElem h] at hx
    rw [List.getElem?_eq_getElem h1] at hy
    cases hx
    cases hy
    rw [Nat.mul_one, Nat.add_zero] at r0 r1
    rw [← Nat.add_assoc] at r1
    exact ⟨r0, r1⟩
set_option maxHeartbeats 8000000 in
theorem rless_any (lo1 lo2 : Nat) (v u : Value) (L A : List (Int × Int)) (hL : L.length ≤ 100) (hA : A.length ≤ 100) (w : World) (H : RL w lo1 v L) (K : RL w lo2 u A) :
    Calls Try.prog 16 #[v, u] w fun e w' => ∃ v' M, e = .returned v' ∧ OR w' w.heap.size v' M ∧ Can M ∧ (∀ n, Has M n ↔ Has L n ∧ ¬ Has A n) ∧ M.length ≤ 400 ∧ Below w.heap.size w w' := by
  have b0 := Go.Joins.below_alloc1 w (.cells #[] 44)
  have EC : Hid _ := ends_any lo1 lo2 v u L A hL hA (w.alloc (.cells #[] 44)) (H.below b0) (K.below b0)
  have SL : Hid (∀ (x : Int) (z : Bool) (W : World), (z = true ↔ Has L x) → Below w.heap.size w W → _) := fun x z W hz hb => some_any lo1 v L x z hz (by omega) W (H.below hb)
  have SA : Hid (∀ (x : Int) (z : Bool) (W : World), (z = true ↔ Has A x) → Below w.heap.size w W → _) := fun x z W hz hb => some_any lo2 u A x z hz (by omega) W (K.below hb)
  have EL : Hid ((endsV L A).length ≤ 400) := by have := endsV_len L A; show _ ≤ _; omega
  have LV := lessV_all L A
  have HLV : Hid (Can (lessV L A (endsV L A) ((endsV L A).length - 1)) ∧ ∀ n, Has (lessV L A (endsV L A) ((endsV L A).length - 1)) n ↔ Has L n ∧ ¬ Has A n) := LV
  have O0 : Hid (OR (w.alloc (.cells #[] 44)) w.heap.size (.slice (some ⟨w.heap.size, 0, none⟩) 0 0) []) := ol_made w _ (Nat.le_refl _)
  have HB0 : Hid (Below w.heap.size w (w.alloc (.cells #[] 44)) ∧ (w.alloc (.cells #[] 44)).heap.size = w.heap.size + 1) := ⟨b0, World.size_alloc _ _⟩
  clear H K hL hA b0 LV
  go_enter Try.func16, Try.ntmps16
  go_wp2_with fail
  refine Calls.mono EC.out ?_
  rintro e w1 ⟨v6, rfl, R6, B1⟩
  obtain ⟨E, hE⟩ : ∃ E, endsV L A = E := ⟨_, rfl⟩
  rw [hE] at R6 HLV EL
  obtain ⟨pe, ce, hv6, hce, hpe, _⟩ := R6.form
  obtain ⟨ne, hne⟩ : ∃ ne, E.length = ne := ⟨_, rfl⟩
  have HNE : Hid (E.length = ne) := hne
  have ne9 : ne ≤ 400 := by rw [← hne]; exact EL.out
  rw [hne] at hv6
  subst hv6
  have HFAR : Hid (∀ g, (Value.slice (some ⟨w.heap.size, 0, none⟩) 0 0).ownBlock = some g → ∀ o, pe ≠ some ⟨g, o, none⟩) := fun g e o q => by
    rcases R6 with ⟨h1, _⟩ | ⟨g2, o2, c2, hv2, _, l0, _, _⟩
    · cases h1; cases q
    · cases hv2; cases q; cases e; rw [World.size_alloc] at l0; exact absurd l0 (Nat.not_succ_le_self _)
  have L0 : Hid (LS w pe ne ce E (.slice (some ⟨w.heap.size, 0, none⟩) 0 0) (lessV L A E 0) w1) := ⟨row_below O0.out B1, R6.low (Nat.zero_le _), HFAR.out, below_then HB0.out.1 B1⟩
  clear R6 B1 EC hne hE hpe hce O0 HB0 HFAR EL
  generalize Value.slice (some ⟨w.heap.size, 0, none⟩) 0 0 = v5 at L0 ⊢
  go_wp2_with fail
  go_loopw [5, 7, 8] (fun v x n W => ∃ k : Nat, (k = 0 ∨ k + 1 ≤ ne) ∧ x = .int .i64 k ∧ Hid (LS w pe ne ce E v (lessV L A E k) W)) (fun _ x _ _ => ne - (Go.RowKit.intOf x).toNat)
  case atStart => exact ⟨0, Or.inl rfl, rfl, L0⟩
  case round =>
    clear L0
    obtain ⟨k, hk, rfl, JL⟩ := hrel
    by_cases ck : k + 1 < ne
    rotate_left
    · have d1 : decide ((k : Int) + 1 < (ne : Int)) = false := decide_eq_false (by omega)
      go_wp2_with fail
      go_ret
      have ek : k = E.length - 1 := by have := HNE.out; omega
      have hh := HLV.out
      rw [← ek] at hh
      exact ⟨u5, lessV L A E k, rfl, JL.out.own, hh.1, hh.2, by have := lessV_len L A E k; omega, JL.out.bel⟩
    have d1 : decide ((k : Int) + 1 < (ne : Int)) = true := decide_eq_true (by omega)
    have d0 : decide ((k : Int) < 0) = false := by simp
    have hke : k < E.length := by rw [HNE.out]; omega
    have hk1 : k + 1 < E.length := by rw [HNE.out]; exact ck
    obtain ⟨p', c', hv', _, _, rd⟩ := JL.out.ends.form
    obtain ⟨ge, oe, hpe, _⟩ := rd k hke
    obtain rfl : pe = some ⟨ge, oe, none⟩ := by cases hv'; exact hpe
    obtain ⟨ea, HEA⟩ : ∃ ea, Hid (E[k]? = some ea) := ⟨E[k], List.getElem?_eq_getElem hke⟩
    obtain ⟨eb, HEB⟩ : ∃ eb, Hid (E[k + 1]? = some eb) := ⟨E[k + 1], List.getElem?_eq_getElem hk1⟩
    have NX : Hid (∀ z : Bool, (z = true ↔ Has L ea ∧ ¬ Has A ea) → lessV L A E (k + 1) = pieceV (lessV L A E k) ea eb z) := fun z hz => by
      have h1 : E.getD k 0 = ea := by rw [List.getD_eq_getElem?_getD, HEA.out]; rfl
      have h2 : E.getD (k + 1) 0 = eb := by rw [List.getD_eq_getElem?_getD, HEB.out]; rfl
      rw [lessV, h1, h2]
      congr 1
      exact dec_is _ _ z hz
    have OL9 : Hid ((lessV L A E k).length ≤ 1000) := by have := lessV_len L A E k; show _ ≤ _; omega
    have y0 : wr.cell? ⟨ge, oe + k, none⟩ = some (.int .i64 ea) := (JL.out.cells hke hk1 HEA.out HEB.out).1
    clear hv' hpe rd
    generalize hO : lessV L A E k = O at JL NX OL9
    clear hO
    by_cases hl : Has L ea
    rotate_left
    · have NE : Hid (LS w (some ⟨ge, oe, none⟩) ne ce E u5 (lessV L A E (k + 1)) wr) := by
        show LS _ _ _ _ _ _ _ _
        rw [NX.out false (by simp [hl]), piece_no]; exact JL.out
      clear JL
      go_wp2_with fail
      refine Calls.mono (SL.out ea false wr (by simp [hl]) NE.out.bel) ?_
      rintro e wx ⟨rfl, BX⟩
      have NF : Hid (LS w (some ⟨ge, oe, none⟩) ne ce E u5 (lessV L A E (k + 1)) wx) := NE.out.below BX
      clear NE BX y0
      go_wp2_with fail
      go_roundw
      case rel => exact ⟨k + 1, by omega, by go_num, NF⟩
      case measure => simp [Go.RowKit.intOf]; omega
    go_wp2_with fail
    refine Calls.mono (SL.out ea true wr (by simp [hl]) JL.out.bel) ?_
    rintro e wx ⟨rfl, BX⟩
    have JX : Hid (LS w (some ⟨ge, oe, none⟩) ne ce E u5 O wx) := JL.out.below BX
    have x0 : wx.cell? ⟨ge, oe + k, none⟩ = some (.int .i64 ea) := (JX.out.cells hke hk1 HEA.out HEB.out).1
    clear JL BX y0
    by_cases ha : Has A ea
    · have NE : Hid (LS w (some ⟨ge, oe, none⟩) ne ce E u5 (lessV L A E (k + 1)) wx) := by
        show LS _ _ _ _ _ _ _ _
        rw [NX.out false (by simp [ha]), piece_no]; exact JX.out
      clear JX
      go_wp2_with fail
      refine Calls.mono (SA.out ea true wx (by simp [ha]) NE.out.bel) ?_
      rintro e wy ⟨rfl, BX⟩
      have NF : Hid (LS w (some ⟨ge, oe, none⟩) ne ce E u5 (lessV L A E (k + 1)) wy) := NE.out.below BX
      clear NE BX x0
      go_wp2_with fail
      go_roundw
      case rel => exact ⟨k + 1, by omega, by go_num, NF⟩
      case measure => simp [Go.RowKit.intOf]; omega
    go_wp2_with fail
    refine Calls.mono (SA.out ea false wx (by simp [ha]) JX.out.bel) ?_
    rintro e wy ⟨rfl, BX⟩
    have JY : Hid (LS w (some ⟨ge, oe, none⟩) ne ce E u5 O wy) := JX.out.below BX
    have NY : Hid (lessV L A E (k + 1) = pieceV O ea eb true) := by
      show _ = _
      rw [NX.out true (by simp [hl, ha])]
    clear JX BX x0 NX
    obtain ⟨ya, yb⟩ := JY.out.cells hke hk1 HEA.out HEB.out
    rcases nil_or_snoc O with e | ⟨M0, q, e⟩
    · subst e
      have NN : Hid (lessV L A E (k + 1) = [] ++ [(ea, eb)]) := by show _ = _; rw [NY.out, piece_first]; rfl
      obtain ⟨pm, cm, hvm, _, _, _⟩ := (ol_ll eR_len JY.out.own).form
      rw [show ([] : List (Int × Int)).length = 0 from rfl] at hvm
      subst hvm
      have zz : decide ((0 : Int) < 0) = false := by decide
      clear NY
      go_wp2_with fail
      go_quiet (fail)
      have LX : Hid (LS w (some ⟨ge, oe, none⟩) ne ce E (.slice pm 0 cm) [] (wy.drewN nq)) := JY.out.below (below_drewN (Below.refl _ _))
      clear JY ya yb
      generalize wy.drewN nq = wx at LX ⊢
      obtain ⟨ya, yb⟩ := LX.out.cells hke hk1 HEA.out HEB.out
      go_wp2_with fail
      generalize Value.slice pm 0 cm = v5 at LX ⊢
      refine wp_region_noPanic ?_
      refine wp_region_held_drew (S := fun W => W.cell? ⟨ge, oe + k, none⟩ = some (.int .i64 ea) ∧ W.cell? ⟨ge, oe + k + 1, none⟩ = some (.int .i64 eb)) (by kernel_rfl) ?_ (fun hHeld => ?_)
      · exact ⟨ya, yb⟩
      have LSU : Hid (LS w (some ⟨ge, oe, none⟩) ne ce E v5 [] wx.drew) := LX.out.below (below_drew (Below.refl _ _))
      clear LX
      generalize wx.drew = U at hHeld LSU ⊢
      refine wpAnyH_take (i := 0) (oi := ⟨some 62, _, _, _, _, none⟩) (v := ?_) rfl (by kernel_rfl) (by kernel_rfl) (by kernel_rfl) (fun _ _ _ h => h) (Or.inl ⟨by rfl, ?_⟩) (by assumption) ?_
      rotate_left
      · intro w hSw; (try dsimp only at hSw); go_simp; (try with_reducible rfl)
      try simp only [Act.put, List.setIfInBounds_toArray, List.set_cons_zero, List.set_cons_succ]
      refine wpAnyH_take (i := 1) (oi := ⟨some 63, _, _, _, _, none⟩) (v := ?_) rfl (by kernel_rfl) (by kernel_rfl) (by kernel_rfl) (fun _ _ _ h => h) (Or.inl ⟨by rfl, ?_⟩) (by assumption) ?_
      rotate_left
      · intro w hSw; (try dsimp only at hSw); go_simp; (try with_reducible rfl)
      try simp only [Act.put, List.setIfInBounds_toArray, List.set_cons_zero, List.set_cons_succ]
      refine wpAnyH_take (i := 2) (oi := ⟨some 64, _, _, _, _, none⟩) (v := ?_) rfl (by kernel_rfl) (by kernel_rfl) (by kernel_rfl) (fun _ _ _ h => h) (Or.inl ⟨by rfl, ?_⟩) (by assumption) ?_
      rotate_left
      · intro w hSw; (try dsimp only at hSw); go_simp; (try with_reducible rfl)
      try simp only [Act.put, List.setIfInBounds_toArray, List.set_cons_zero, List.set_cons_succ]
      refine wpAnyH_take (i := 3) (oi := ⟨some 65, _, _, _, _, none⟩) (v := (.pointer (some ⟨ge, oe + k, none⟩))) rfl (by kernel_rfl) (by kernel_rfl) (by kernel_rfl) (fun _ _ _ h => h) (Or.inl ⟨by rfl, ?_⟩) (by assumption) ?_
      · intro w hSw; (try dsimp only at hSw); have q9 : True := trivial; go_simp; (try simp [*]); (intro hz; exfalso; first | omega | (have := hz (by omega); omega)); (try go_simp); (try simp [*])
      try simp only [Act.put, List.setIfInBounds_toArray, List.set_cons_zero, List.set_cons_succ]
      refine wpAnyH_take (i := 4) (oi := ⟨some 66, _, _, _, _, none⟩) (v := (.int .i64 ea)) rfl (by kernel_rfl) (by kernel_rfl) (by kernel_rfl) (fun _ _ _ h => h) (Or.inl ⟨by rfl, ?_⟩) (by assumption) ?_
      · intro w hSw; (try dsimp only at hSw); have q0 : w.cell? ⟨ge, oe + k, none⟩ = some (.int .i64 ea) := hSw.1; (try go_simp); (try simp [*])
      try simp only [Act.put, List.setIfInBounds_toArray, List.set_cons_zero, List.set_cons_succ]
      refine wpAnyH_take (i := 5) (oi := ⟨some 67, _, _, _, _, none⟩) (v := ?_) rfl (by kernel_rfl) (by kernel_rfl) (by kernel_rfl) (fun _ _ _ h => h) (Or.inl ⟨by rfl, ?_⟩) (by assumption) ?_
      rotate_left
      · intro w hSw; (try dsimp only at hSw); go_simp; (try with_reducible rfl)
      try simp only [Act.put, List.setIfInBounds_toArray, List.set_cons_zero, List.set_cons_succ]
      refine wpAnyH_take (i := 6) (oi := ⟨some 68, _, _, _, _, none⟩) (v := ?_) rfl (by kernel_rfl) (by kernel_rfl) (by kernel_rfl) (fun _ _ _ h => h) (Or.inl ⟨by rfl, ?_⟩) (by assumption) ?_
      rotate_left
      · intro w hSw; (try dsimp only at hSw); go_simp; (try with_reducible rfl)
      try simp only [Act.put, List.setIfInBounds_toArray, List.set_cons_zero, List.set_cons_succ]
      refine wpAnyH_take (i := 7) (oi := ⟨some 69, _, _, _, _, none⟩) (v := (.int .i64 ((k : Int) + 1))) rfl (by kernel_rfl) (by kernel_rfl) (by kernel_rfl) (fun _ _ _ h => h) (Or.inl ⟨by rfl, ?_⟩) (by assumption) ?_
      · intro w hSw; (try dsimp only at hSw); go_simp; (try simp); (try (simp only [IntKind.wrap_i64]; omega))
      try simp only [Act.put, List.setIfInBounds_toArray, List.set_cons_zero, List.set_cons_succ]
      refine wpAnyH_take (i := 8) (oi := ⟨some 70, _, _, _, _, none⟩) (v := (.pointer (some ⟨ge, oe + k + 1, none⟩))) rfl (by kernel_rfl) (by kernel_rfl) (by kernel_rfl) (fun _ _ _ h => h) (Or.inl ⟨by rfl, ?_⟩) (by assumption) ?_
      · intro w hSw; (try dsimp only at hSw); have q9 : oe + (k + 1) = oe + k + 1 := (by omega); go_simp; (try simp [*]); (intro hz; exfalso; first | omega | (have := hz (by omega); omega)); (try go_simp); (try simp [*])
      try simp only [Act.put, List.setIfInBounds_toArray, List.set_cons_zero, List.set_cons_succ]
      refine wpAnyH_take (i := 9) (oi := ⟨some 71, _, _, _, _, none⟩) (v := (.int .i64 eb)) rfl (by kernel_rfl) (by kernel_rfl) (by kernel_rfl) (fun _ _ _ h => h) (Or.inl ⟨by rfl, ?_⟩) (by assumption) ?_
      · intro w hSw; (try dsimp only at hSw); have q0 : w.cell? ⟨ge, oe + k + 1, none⟩ = some (.int .i64 eb) := hSw.2; (try go_simp); (try simp [*])
      try simp only [Act.put, List.setIfInBounds_toArray, List.set_cons_zero, List.set_cons_succ]
      refine wpAnyH_take (i := 10) (oi := ⟨some 72, _, _, _, _, none⟩) (v := ?_) rfl (by kernel_rfl) (by kernel_rfl) (by kernel_rfl) (fun _ _ _ h => h) (Or.inl ⟨by rfl, ?_⟩) (by assumption) ?_
      rotate_left
      · intro w hSw; (try dsimp only at hSw); go_simp; (try with_reducible rfl)
      try simp only [Act.put, List.setIfInBounds_toArray, List.set_cons_zero, List.set_cons_succ]
      obtain ⟨v', W2, r, L2⟩ := LSU.out.app (by have h : ([] : List (Int × Int)).length ≤ 1000 := OL9.out; omega) (ea, eb)
      have HL2 : Hid (LS w (some ⟨ge, oe, none⟩) ne ce E v' ([] ++ [(ea, eb)]) W2) := L2
      have A1 : Hid (U.heap.size = U.heap.size ∧ LS w (some ⟨ge, oe, none⟩) ne ce E v5 [] (U.alloc (.cells #[.int .i64 ea, .int .i64 eb] 44))) := ⟨rfl, LSU.out.below (Go.Joins.below_alloc1 _ _)⟩
      clear LSU L2
      refine wpAnyH_ready (rs := [11]) (by kernel_rfl) (by simp) ?_
      refine AllReadyH.cons (o := ⟨some 73, _, _, _, _, none⟩) rfl (fun K hK => ?_) AllReadyH.nil
      go_simp
      refine hK.out _ _ ⟨A1.out.2.cells (kk := k) hke hk1 HEA.out HEB.out |>.1, A1.out.2.cells (kk := k) hke hk1 HEA.out HEB.out |>.2⟩ (fun hHeld2 => ?_)
      clear hK K hHeld
      try simp only [Act.put, List.setIfInBounds_toArray, List.set_cons_zero, List.set_cons_succ]
      refine wpAnyH_ready (rs := [12]) (by kernel_rfl) (by simp) ?_
      refine AllReadyH.cons (o := ⟨some 74, _, _, _, _, none⟩) rfl (fun K hK => ?_) AllReadyH.nil
      refine wanted_mp rfl ?_
      refine wp_app _ _ 38 rfl v5 (.slice (some ⟨U.heap.size, 0, none⟩) 1 1) rfl rfl v' W2 r ?_
      refine hK.out _ _ ⟨HL2.out.cells (kk := k) hke hk1 HEA.out HEB.out |>.1, HL2.out.cells (kk := k) hke hk1 HEA.out HEB.out |>.2⟩ (fun hHeld => ?_)
      clear hK K hHeld2
      try simp only [Act.put, List.setIfInBounds_toArray, List.set_cons_zero, List.set_cons_succ]
      refine wpAnyH_take (i := 13) (oi := ⟨some 5, _, _, _, _, none⟩) (v := ?_) rfl (by kernel_rfl) (by kernel_rfl) (by kernel_rfl) (fun _ _ _ h => h) (Or.inl ⟨by rfl, ?_⟩) (by assumption) ?_
      rotate_left
      · intro w hSw; (try dsimp only at hSw); go_simp; (try with_reducible rfl)
      try simp only [Act.put, List.setIfInBounds_toArray, List.set_cons_zero, List.set_cons_succ]
      clear hHeld
      refine wpAnyH_done (by kernel_rfl) ?_ _
      refine NoPanic.normal ?_
      have NF : Hid (LS w (some ⟨ge, oe, none⟩) ne ce E v' (lessV L A E (k + 1)) W2) := by rw [NN.out]; exact HL2.out
      clear HL2
      go_wp2_with fail
      go_roundw
      case rel => exact ⟨k + 1, by omega, by go_num, NF⟩
      case measure => simp [Go.RowKit.intOf]; omega
    · subst e
      obtain ⟨gm, cm, hvm, gf, k1, kf, mc, kset⟩ := JY.out.last
      obtain ⟨q1, q2⟩ := q
      obtain ⟨ml, hml⟩ : ∃ ml, M0.length = ml := ⟨_, rfl⟩
      have HML : Hid (M0.length = ml) := hml
      have ML9 : ml ≤ 1000 := by have h : (M0 ++ [(q1, q2)]).length ≤ 1000 := OL9.out; simp at h; omega
      rw [hml] at hvm k1 kf mc
      simp only at k1
      have i0 : decide ((0 : Int) < (ml : Int) + 1) = true := decide_eq_true (by omega)
      subst hvm
      by_cases c2 : q2 = ea
      · subst c2
        have NN : Hid (lessV L A E (k + 1) = M0 ++ [(q1, eb)]) := by show _ = _; rw [NY.out, piece_meet]
        clear NY kset hml kf
        go_wp2_with fail
        go_quiet (fail)
        have LX : Hid (LS w (some ⟨ge, oe, none⟩) ne ce E (.slice (some ⟨gm, 0, none⟩) (ml + 1) cm) (M0 ++ [(q1, q2)]) (wy.drewN nq)) := JY.out.below (below_drewN (Below.refl _ _))
        clear JY ya yb k1
        generalize wy.drewN nq = wx at LX ⊢
        obtain ⟨ya, yb⟩ := LX.out.cells hke hk1 HEA.out HEB.out
        obtain ⟨gm', cm', hvm', gf', k1, kf, mc', kset⟩ := LX.out.last
        rw [HML.out] at hvm' k1 kf kset
        cases hvm'
        have NF : Hid (LS w (some ⟨ge, oe, none⟩) ne ce E (.slice (some ⟨gm, 0, none⟩) (ml + 1) cm) (lessV L A E (k + 1)) (wx.setCell ⟨gm, ml * 2 + 1, none⟩ (.int .i64 eb))) := by rw [NN.out]; exact kset eb
        have yb2 : wx.cell? ⟨ge, oe + (k + 1), none⟩ = some (.int .i64 eb) := yb
        clear kset gf' mc' LX
        go_wp2_with fail
        go_roundw
        case rel => exact ⟨k + 1, by omega, by go_num, NF⟩
        case measure => simp [Go.RowKit.intOf]; omega
      · have NN : Hid (lessV L A E (k + 1) = (M0 ++ [(q1, q2)]) ++ [(ea, eb)]) := by show _ = _; rw [NY.out, piece_new _ _ _ _ c2]
        have dq : (q2 == ea) = false := by simp [c2]
        clear NY kset hml kf
        go_wp2_with fail
        go_quiet (fail)
        have LX : Hid (LS w (some ⟨ge, oe, none⟩) ne ce E (.slice (some ⟨gm, 0, none⟩) (ml + 1) cm) (M0 ++ [(q1, q2)]) (wy.drewN nq)) := JY.out.below (below_drewN (Below.refl _ _))
        clear JY ya yb k1
        generalize wy.drewN nq = wx at LX ⊢
        obtain ⟨ya, yb⟩ := LX.out.cells hke hk1 HEA.out HEB.out
        go_wp2_with fail
        generalize Value.slice (some ⟨gm, 0, none⟩) (ml + 1) cm = v5 at LX ⊢
        generalize hO : M0 ++ [(q1, q2)] = O at LX NN OL9
        refine wp_region_noPanic ?_
        refine wp_region_held_drew (S := fun W => W.cell? ⟨ge, oe + k, none⟩ = some (.int .i64 ea) ∧ W.cell? ⟨ge, oe + k + 1, none⟩ = some (.int .i64 eb)) (by kernel_rfl) ?_ (fun hHeld => ?_)
        · exact ⟨ya, yb⟩
        have LSU : Hid (LS w (some ⟨ge, oe, none⟩) ne ce E v5 O wx.drew) := LX.out.below (below_drew (Below.refl _ _))
        clear LX
        generalize wx.drew = U at hHeld LSU ⊢
        refine wpAnyH_take (i := 0) (oi := ⟨some 62, _, _, _, _, none⟩) (v := ?_) rfl (by kernel_rfl) (by kernel_rfl) (by kernel_rfl) (fun _ _ _ h => h) (Or.inl ⟨by rfl, ?_⟩) (by assumption) ?_
        rotate_left
        · intro w hSw; (try dsimp only at hSw); go_simp; (try with_reducible rfl)
        try simp only [Act.put, List.setIfInBounds_toArray, List.set_cons_zero, List.set_cons_succ]
        refine wpAnyH_take (i := 1) (oi := ⟨some 63, _, _, _, _, none⟩) (v := ?_) rfl (by kernel_rfl) (by kernel_rfl) (by kernel_rfl) (fun _ _ _ h => h) (Or.inl ⟨by rfl, ?_⟩) (by assumption) ?_
        rotate_left
        · intro w hSw; (try dsimp only at hSw); go_simp; (try with_reducible rfl)
        try simp only [Act.put, List.setIfInBounds_toArray, List.set_cons_zero, List.set_cons_succ]
        refine wpAnyH_take (i := 2) (oi := ⟨some 64, _, _, _, _, none⟩) (v := ?_) rfl (by kernel_rfl) (by kernel_rfl) (by kernel_rfl) (fun _ _ _ h => h) (Or.inl ⟨by rfl, ?_⟩) (by assumption) ?_
        rotate_left
        · intro w hSw; (try dsimp only at hSw); go_simp; (try with_reducible rfl)
        try simp only [Act.put, List.setIfInBounds_toArray, List.set_cons_zero, List.set_cons_succ]
        refine wpAnyH_take (i := 3) (oi := ⟨some 65, _, _, _, _, none⟩) (v := (.pointer (some ⟨ge, oe + k, none⟩))) rfl (by kernel_rfl) (by kernel_rfl) (by kernel_rfl) (fun _ _ _ h => h) (Or.inl ⟨by rfl, ?_⟩) (by assumption) ?_
        · intro w hSw; (try dsimp only at hSw); have q9 : True := trivial; go_simp; (try simp [*]); (intro hz; exfalso; first | omega | (have := hz (by omega); omega)); (try go_simp); (try simp [*])
        try simp only [Act.put, List.setIfInBounds_toArray, List.set_cons_zero, List.set_cons_succ]
        refine wpAnyH_take (i := 4) (oi := ⟨some 66, _, _, _, _, none⟩) (v := (.int .i64 ea)) rfl (by kernel_rfl) (by kernel_rfl) (by kernel_rfl) (fun _ _ _ h => h) (Or.inl ⟨by rfl, ?_⟩) (by assumption) ?_
        · intro w hSw; (try dsimp only at hSw); have q0 : w.cell? ⟨ge, oe + k, none⟩ = some (.int .i64 ea) := hSw.1; (try go_simp); (try simp [*])
        try simp only [Act.put, List.setIfInBounds_toArray, List.set_cons_zero, List.set_cons_succ]
        refine wpAnyH_take (i := 5) (oi := ⟨some 67, _, _, _, _, none⟩) (v := ?_) rfl (by kernel_rfl) (by kernel_rfl) (by kernel_rfl) (fun _ _ _ h => h) (Or.inl ⟨by rfl, ?_⟩) (by assumption) ?_
        rotate_left
        · intro w hSw; (try dsimp only at hSw); go_simp; (try with_reducible rfl)
        try simp only [Act.put, List.setIfInBounds_toArray, List.set_cons_zero, List.set_cons_succ]
        refine wpAnyH_take (i := 6) (oi := ⟨some 68, _, _, _, _, none⟩) (v := ?_) rfl (by kernel_rfl) (by kernel_rfl) (by kernel_rfl) (fun _ _ _ h => h) (Or.inl ⟨by rfl, ?_⟩) (by assumption) ?_
        rotate_left
        · intro w hSw; (try dsimp only at hSw); go_simp; (try with_reducible rfl)
        try simp only [Act.put, List.setIfInBounds_toArray, List.set_cons_zero, List.set_cons_succ]
        refine wpAnyH_take (i := 7) (oi := ⟨some 69, _, _, _, _, none⟩) (v := (.int .i64 ((k : Int) + 1))) rfl (by kernel_rfl) (by kernel_rfl) (by kernel_rfl) (fun _ _ _ h => h) (Or.inl ⟨by rfl, ?_⟩) (by assumption) ?_
        · intro w hSw; (try dsimp only at hSw); go_simp; (try simp); (try (simp only [IntKind.wrap_i64]; omega))
        try simp only [Act.put, List.setIfInBounds_toArray, List.set_cons_zero, List.set_cons_succ]
        refine wpAnyH_take (i := 8) (oi := ⟨some 70, _, _, _, _, none⟩) (v := (.pointer (some ⟨ge, oe + k + 1, none⟩))) rfl (by kernel_rfl) (by kernel_rfl) (by kernel_rfl) (fun _ _ _ h => h) (Or.inl ⟨by rfl, ?_⟩) (by assumption) ?_
        · intro w hSw; (try dsimp only at hSw); have q9 : oe + (k + 1) = oe + k + 1 := (by omega); go_simp; (try simp [*]); (intro hz; exfalso; first | omega | (have := hz (by omega); omega)); (try go_simp); (try simp [*])
        try simp only [Act.put, List.setIfInBounds_toArray, List.set_cons_zero, List.set_cons_succ]
        refine wpAnyH_take (i := 9) (oi := ⟨some 71, _, _, _, _, none⟩) (v := (.int .i64 eb)) rfl (by kernel_rfl) (by kernel_rfl) (by kernel_rfl) (fun _ _ _ h => h) (Or.inl ⟨by rfl, ?_⟩) (by assumption) ?_
        · intro w hSw; (try dsimp only at hSw); have q0 : w.cell? ⟨ge, oe + k + 1, none⟩ = some (.int .i64 eb) := hSw.2; (try go_simp); (try simp [*])
        try simp only [Act.put, List.setIfInBounds_toArray, List.set_cons_zero, List.set_cons_succ]
        refine wpAnyH_take (i := 10) (oi := ⟨some 72, _, _, _, _, none⟩) (v := ?_) rfl (by kernel_rfl) (by kernel_rfl) (by kernel_rfl) (fun _ _ _ h => h) (Or.inl ⟨by rfl, ?_⟩) (by assumption) ?_
        rotate_left
        · intro w hSw; (try dsimp only at hSw); go_simp; (try with_reducible rfl)
        try simp only [Act.put, List.setIfInBounds_toArray, List.set_cons_zero, List.set_cons_succ]
        obtain ⟨v', W2, r, L2⟩ := LSU.out.app (by have h : (O : List (Int × Int)).length ≤ 1000 := OL9.out; omega) (ea, eb)
        have HL2 : Hid (LS w (some ⟨ge, oe, none⟩) ne ce E v' (O ++ [(ea, eb)]) W2) := L2
        have A1 : Hid (U.heap.size = U.heap.size ∧ LS w (some ⟨ge, oe, none⟩) ne ce E v5 O (U.alloc (.cells #[.int .i64 ea, .int .i64 eb] 44))) := ⟨rfl, LSU.out.below (Go.Joins.below_alloc1 _ _)⟩
        clear LSU L2
        refine wpAnyH_ready (rs := [11]) (by kernel_rfl) (by simp) ?_
        refine AllReadyH.cons (o := ⟨some 73, _, _, _, _, none⟩) rfl (fun K hK => ?_) AllReadyH.nil
        go_simp
        refine hK.out _ _ ⟨A1.out.2.cells (kk := k) hke hk1 HEA.out HEB.out |>.1, A1.out.2.cells (kk := k) hke hk1 HEA.out HEB.out |>.2⟩ (fun hHeld2 => ?_)
        clear hK K hHeld
        try simp only [Act.put, List.setIfInBounds_toArray, List.set_cons_zero, List.set_cons_succ]
        refine wpAnyH_ready (rs := [12]) (by kernel_rfl) (by simp) ?_
        refine AllReadyH.cons (o := ⟨some 74, _, _, _, _, none⟩) rfl (fun K hK => ?_) AllReadyH.nil
        refine wanted_mp rfl ?_
        refine wp_app _ _ 38 rfl v5 (.slice (some ⟨U.heap.size, 0, none⟩) 1 1) rfl rfl v' W2 r ?_
        refine hK.out _ _ ⟨HL2.out.cells (kk := k) hke hk1 HEA.out HEB.out |>.1, HL2.out.cells (kk := k) hke hk1 HEA.out HEB.out |>.2⟩ (fun hHeld => ?_)
        clear hK K hHeld2
        try simp only [Act.put, List.setIfInBounds_toArray, List.set_cons_zero, List.set_cons_succ]
        refine wpAnyH_take (i := 13) (oi := ⟨some 5, _, _, _, _, none⟩) (v := ?_) rfl (by kernel_rfl) (by kernel_rfl) (by kernel_rfl) (fun _ _ _ h => h) (Or.inl ⟨by rfl, ?_⟩) (by assumption) ?_
        rotate_left
        · intro w hSw; (try dsimp only at hSw); go_simp; (try with_reducible rfl)
        try simp only [Act.put, List.setIfInBounds_toArray, List.set_cons_zero, List.set_cons_succ]
        clear hHeld
        refine wpAnyH_done (by kernel_rfl) ?_ _
        refine NoPanic.normal ?_
        have NF : Hid (LS w (some ⟨ge, oe, none⟩) ne ce E v' (lessV L A E (k + 1)) W2) := by rw [NN.out]; exact HL2.out
        clear HL2
        go_wp2_with fail
        go_roundw
        case rel => exact ⟨k + 1, by omega, by go_num, NF⟩
        case measure => simp [Go.RowKit.intOf]; omega
end Go.Proofs.Ytkgjeemecpigpaa.Bm
