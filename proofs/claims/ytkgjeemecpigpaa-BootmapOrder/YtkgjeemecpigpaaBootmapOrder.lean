/- For any areas (at most 30), any area more and any number of frames: Frames answers the same for the areas' bytes and for those of the areas turned round; and with one area more that is not to be used and doesn't go round, it answers ErrNoMem and no range, or ranges whose first and last frames were there before; no condition. -/
import Derived.Test.YtkgjeemecpigpaaRows
import Derived.ProofKit
import Derived.OpenShut
import Derived.Carry
import Derived.Test.YtkgjeemecpigpaaOR
import Derived.Sort.BigQuietIn
import Derived.Test.YtkgjeemecpigpaaOM
namespace Go.Proofs.Ytkgjeemecpigpaa.bootmapOrder
open Go.ChangeShapes Go.WideShapes Go.ChangeAt Go.RowKit Go.Maps
set_option linter.unusedSimpArgs false
set_option linter.unusedVariables false
open Go.Proofs.Ytkgjeemecpigpaa.Bm
theorem some_bool (p : Prop) : ∃ z : Bool, z = true ↔ p := ⟨@decide p (Classical.propDecidable p), by simp⟩
theorem tb_start (wb : World) : TB wb (.slice (some ⟨wb.heap.size, 0, none⟩) 0 0) (.slice (some ⟨wb.heap.size + 1, 0, none⟩) 0 0) [] [] ((wb.alloc (.cells #[] 5)).alloc (.cells #[] 5)) := by
  refine ⟨row_below (ol_made wb _ (Nat.le_refl _)) (Go.Joins.below_alloc1 _ _), ?_, ⟨_, rfl⟩, ⟨_, rfl⟩, fun g e h => ?_, below_new (Go.Joins.below_alloc1 _ _) _⟩
  · have := ol_made (T := 5) (k := 1) (enc := eB) (wb.alloc (.cells #[] 5)) wb.heap.size (by rw [World.size_alloc]; omega)
    rw [World.size_alloc] at this; exact this
  · cases e; have := Option.some.inj h; exact absurd this (by show ¬ wb.heap.size + 1 = wb.heap.size; omega)

set_option maxRecDepth 8000 in
set_option maxHeartbeats 8000000 in
theorem walk (p0 : Option Addr) (n0 c0 : Nat) (A0 : Nat → Ar) (m0 : n0 ≤ maxLen) (x1 : Ar) (w1 : x1.wf) (a2 : Int) (w2 : (Lit.int .i64 a2).wf = true) (w : World) (H0 : IsAreas w p0 n0 A0) :
    Calls Try.prog 7 #[.slice p0 n0 c0, .agg #[.int .u64 x1.f, .int .u64 x1.l, .int .u32 x1.k], .int .i64 a2] w fun e w' => e = .returned (.bool true) ∧ Below w.heap.size w w' := by
  obtain ⟨mf, ml, mk⟩ := x1
  obtain ⟨wb, hwb⟩ : ∃ wb, w.alloc (.cells #[.int .u64 mf, .int .u64 ml, .int .u32 mk] 36) = wb := ⟨_, rfl⟩
  have B0 : Hid (Blk wb w.heap.size [.int .u64 mf, .int .u64 ml, .int .u32 mk] 36 ∧ Below w.heap.size w wb ∧ wb.heap.size = w.heap.size + 1) := by
    rw [← hwb]
    exact ⟨Blk.made w [.int .u64 mf, .int .u64 ml, .int .u32 mk] 36, Go.Joins.below_alloc1 _ _, World.size_alloc _ _⟩
  obtain ⟨AR, hAR⟩ : ∃ AR, (List.range n0).map A0 = AR := ⟨_, rfl⟩
  have LAR : Hid (AR.length = n0) := by rw [← hAR]; show _ = _; simp
  have HAR : Hid (∀ i (hi : i < AR.length), ∃ b o, p0 = some ⟨b, o, none⟩ ∧ b < w.heap.size ∧ w.cell? ⟨b, o + i * 3, none⟩ = some (.int .u64 AR[i].f) ∧ w.cell? ⟨b, o + i * 3 + 1, none⟩ = some (.int .u64 AR[i].l) ∧ w.cell? ⟨b, o + i * 3 + 2, none⟩ = some (.int .u32 AR[i].k) ∧ AR[i].wf) := fun i hi => by
    have hn : i < n0 := by rw [← LAR.out]; exact hi
    have e : AR[i] = A0 i := by subst hAR; simp
    obtain ⟨b, o, h1, h2, h3, h4, h5, h6, h7, h8⟩ := H0 i hn
    rw [e]
    exact ⟨b, o, h1, h2, h3, h4, h5, area_wf h6 h7 h8⟩
  have HW1 : Hid (Ar.wf ⟨mf, ml, mk⟩) := w1
  have T0 : Hid (TB wb (.slice (some ⟨wb.heap.size, 0, none⟩) 0 0) (.slice (some ⟨wb.heap.size + 1, 0, none⟩) 0 0) (flatB (AR.take 0)) (flatB (AR.take 0).reverse) ((wb.alloc (.cells #[] 5)).alloc (.cells #[] 5))) := tb_start wb
  have AC : Hid (∀ W : World, _) := fun W => awake_any W
  have EM : Hid (∀ W : World, _) := fun W => entry_call mf ml mk w1.1.1 w1.1.2 w1.2.1.1 w1.2.1.2 w1.2.2.1 w1.2.2.2 W
  obtain ⟨kb, hkb⟩ : ∃ kb, w.heap.size = kb := ⟨_, rfl⟩
  have B1 : Hid (Blk wb kb [.int .u64 mf, .int .u64 ml, .int .u32 mk] 36) := by rw [← hkb]; exact B0.out.1
  clear H0 hAR w1
  go_enter Try.func7, Try.ntmps7
  go_wp2_with fail

  clear hwb hkb
  generalize (wb.alloc (.cells #[] 5)).alloc (.cells #[] 5) = wl at T0 ⊢
  generalize Value.slice (some ⟨wb.heap.size, 0, none⟩) 0 0 = v7 at T0 ⊢
  generalize Value.slice (some ⟨wb.heap.size + 1, 0, none⟩) 0 0 = v8 at T0 ⊢
  go_loopw [7, 8, 9, 10] (fun v u i _ W => ∃ k : Nat, k ≤ n0 ∧ k ≤ 30 ∧ i = .int .i64 k ∧ Hid (TB wb v u (flatB (AR.take k)) (flatB (AR.take k).reverse) W)) (fun _ _ i _ _ => 30 - (Go.RowKit.intOf i).toNat)
  case atStart => exact ⟨0, by omega, by omega, rfl, T0⟩
  case round =>
    clear T0
    obtain ⟨k, hk, hk30, rfl, T⟩ := hrel
    by_cases ck : k < n0 ∧ k < 30
    · have dk : decide ((k : Int) < (n0 : Int)) = true := decide_eq_true (by omega)
      have d30 : decide ((k : Int) < 30) = true := decide_eq_true (by omega)
      have d0 : decide ((k : Int) < 0) = false := by simp
      obtain ⟨ck, ck3⟩ := ck
      have kS : k < AR.length := by rw [LAR.out]; exact ck
      obtain ⟨ga, oa, rfl, la, c0', c1', c2', xw⟩ := HAR.out k kS
      have lb : ga < wb.heap.size := by have := B0.out.2.2; omega
      have tr : ∀ o, wr.cell? ⟨ga, o, none⟩ = w.cell? ⟨ga, o, none⟩ := fun o => (World.cell?_of_block (T.out.bel.block ga lb)).trans (World.cell?_of_block (B0.out.2.1.block ga la))
      have y0 := (tr _).trans c0'
      have y1 := (tr _).trans c1'
      have y2 := (tr _).trans c2'
      have NX : Hid (flatB (AR.take (k + 1)) = flatB (AR.take k) ++ entB AR[k] ∧ flatB (AR.take (k + 1)).reverse = entB AR[k] ++ flatB (AR.take k).reverse) := by
        have e := take_next AR k kS
        refine ⟨?_, ?_⟩
        · rw [e, flatB_app, flatB_cons, flatB_nil, List.append_nil]
        · rw [e, List.reverse_append, flatB_app]; show flatB [AR[k]] ++ _ = _; rw [flatB_cons, flatB_nil, List.append_nil]
      have LN : Hid ((flatB (AR.take k)).length ≤ 10000 ∧ (flatB (AR.take k).reverse).length ≤ 10000) := by
        refine ⟨?_, ?_⟩
        · rw [flatB_len, List.length_take]; omega
        · rw [flatB_len, List.length_reverse, List.length_take]; omega
      generalize AR[k] = x at y0 y1 y2 xw NX
      obtain ⟨xf, xl, xk⟩ := x
      simp only at y0 y1 y2
      have EC : Hid (∀ W : World, _) := fun W => entry_call xf xl xk xw.1.1 xw.1.2 xw.2.1.1 xw.2.1.2 xw.2.2.1 xw.2.2.2 W
      clear c0' c1' c2' tr la lb xw
      go_upto_region 5 with fail
      refine wp_region_noPanic ?_
      refine wp_region_held_drew (S := fun W => W.cell? ⟨ga, oa + k * 3, none⟩ = some (.int .u64 xf) ∧ W.cell? ⟨ga, oa + k * 3 + 1, none⟩ = some (.int .u64 xl) ∧ W.cell? ⟨ga, oa + k * 3 + 2, none⟩ = some (.int .u32 xk)) (by kernel_rfl) ?_ (fun hHeld => ?_)
      · exact ⟨y0, y1, y2⟩
      have TU : Hid (TB wb u7 u8 (flatB (AR.take k)) (flatB (AR.take k).reverse) wr.drew) := T.out.below (below_drew (Below.refl _ _))
      clear T
      generalize wr.drew = U at hHeld TU ⊢
      refine wpAnyH_take (i := 0) (oi := ⟨some 31, _, _, _, _, none⟩) (v := ?_) rfl (by kernel_rfl) (by kernel_rfl) (by kernel_rfl) (fun _ _ _ h => h) (Or.inl ⟨by rfl, ?_⟩) (by assumption) ?_
      rotate_left
      · intro w hSw; (try dsimp only at hSw); go_simp; (try with_reducible rfl)
      try simp only [Act.put, List.setIfInBounds_toArray, List.set_cons_zero, List.set_cons_succ]
      refine wpAnyH_take (i := 1) (oi := ⟨some 32, _, _, _, _, none⟩) (v := ?_) rfl (by kernel_rfl) (by kernel_rfl) (by kernel_rfl) (fun _ _ _ h => h) (Or.inl ⟨by rfl, ?_⟩) (by assumption) ?_
      rotate_left
      · intro w hSw; (try dsimp only at hSw); go_simp; (try with_reducible rfl)
      try simp only [Act.put, List.setIfInBounds_toArray, List.set_cons_zero, List.set_cons_succ]
      refine wpAnyH_take (i := 2) (oi := ⟨some 33, _, _, _, _, none⟩) (v := (.pointer (some ⟨ga, oa + k * 3, none⟩))) rfl (by kernel_rfl) (by kernel_rfl) (by kernel_rfl) (fun _ _ _ h => h) (Or.inl ⟨by rfl, ?_⟩) (by assumption) ?_
      · intro w hSw; (try dsimp only at hSw); have q9 : True := trivial; (try go_simp); (try simp [*])
      try simp only [Act.put, List.setIfInBounds_toArray, List.set_cons_zero, List.set_cons_succ]
      refine wpAnyH_take (i := 3) (oi := ⟨some 34, _, _, _, _, none⟩) (v := (.pointer (some ⟨ga, oa + k * 3, none⟩))) rfl (by kernel_rfl) (by kernel_rfl) (by kernel_rfl) (fun _ _ _ h => h) (Or.inl ⟨by rfl, ?_⟩) (by assumption) ?_
      · intro w hSw; (try dsimp only at hSw); go_simp; (try simp); (try (simp only [IntKind.wrap_i64]; omega))
      try simp only [Act.put, List.setIfInBounds_toArray, List.set_cons_zero, List.set_cons_succ]
      refine wpAnyH_take (i := 4) (oi := ⟨some 35, _, _, _, _, none⟩) (v := (.int .u64 xf)) rfl (by kernel_rfl) (by kernel_rfl) (by kernel_rfl) (fun _ _ _ h => h) (Or.inl ⟨by rfl, ?_⟩) (by assumption) ?_
      · intro w hSw; (try dsimp only at hSw); have q0 : w.cell? ⟨ga, oa + k * 3, none⟩ = some (.int .u64 xf) := hSw.1; (try go_simp); (try simp [*])
      try simp only [Act.put, List.setIfInBounds_toArray, List.set_cons_zero, List.set_cons_succ]
      refine wpAnyH_take (i := 5) (oi := ⟨some 36, _, _, _, _, none⟩) (v := ?_) rfl (by kernel_rfl) (by kernel_rfl) (by kernel_rfl) (fun _ _ _ h => h) (Or.inl ⟨by rfl, ?_⟩) (by assumption) ?_
      rotate_left
      · intro w hSw; (try dsimp only at hSw); go_simp; (try with_reducible rfl)
      try simp only [Act.put, List.setIfInBounds_toArray, List.set_cons_zero, List.set_cons_succ]
      refine wpAnyH_take (i := 6) (oi := ⟨some 37, _, _, _, _, none⟩) (v := ?_) rfl (by kernel_rfl) (by kernel_rfl) (by kernel_rfl) (fun _ _ _ h => h) (Or.inl ⟨by rfl, ?_⟩) (by assumption) ?_
      rotate_left
      · intro w hSw; (try dsimp only at hSw); go_simp; (try with_reducible rfl)
      try simp only [Act.put, List.setIfInBounds_toArray, List.set_cons_zero, List.set_cons_succ]
      refine wpAnyH_take (i := 7) (oi := ⟨some 38, _, _, _, _, none⟩) (v := (.pointer (some ⟨ga, oa + k * 3, none⟩))) rfl (by kernel_rfl) (by kernel_rfl) (by kernel_rfl) (fun _ _ _ h => h) (Or.inl ⟨by rfl, ?_⟩) (by assumption) ?_
      · intro w hSw; (try dsimp only at hSw); have q9 : True := trivial; (try go_simp); (try simp [*])
      try simp only [Act.put, List.setIfInBounds_toArray, List.set_cons_zero, List.set_cons_succ]
      refine wpAnyH_take (i := 8) (oi := ⟨some 39, _, _, _, _, none⟩) (v := (.pointer (some ⟨ga, oa + k * 3 + 1, none⟩))) rfl (by kernel_rfl) (by kernel_rfl) (by kernel_rfl) (fun _ _ _ h => h) (Or.inl ⟨by rfl, ?_⟩) (by assumption) ?_
      · intro w hSw; (try dsimp only at hSw); go_simp; (try simp); (try (simp only [IntKind.wrap_i64]; omega))
      try simp only [Act.put, List.setIfInBounds_toArray, List.set_cons_zero, List.set_cons_succ]
      refine wpAnyH_take (i := 9) (oi := ⟨some 40, _, _, _, _, none⟩) (v := (.int .u64 xl)) rfl (by kernel_rfl) (by kernel_rfl) (by kernel_rfl) (fun _ _ _ h => h) (Or.inl ⟨by rfl, ?_⟩) (by assumption) ?_
      · intro w hSw; (try dsimp only at hSw); have q0 : w.cell? ⟨ga, oa + k * 3 + 1, none⟩ = some (.int .u64 xl) := hSw.2.1; (try go_simp); (try simp [*])
      try simp only [Act.put, List.setIfInBounds_toArray, List.set_cons_zero, List.set_cons_succ]
      refine wpAnyH_take (i := 10) (oi := ⟨some 41, _, _, _, _, none⟩) (v := ?_) rfl (by kernel_rfl) (by kernel_rfl) (by kernel_rfl) (fun _ _ _ h => h) (Or.inl ⟨by rfl, ?_⟩) (by assumption) ?_
      rotate_left
      · intro w hSw; (try dsimp only at hSw); go_simp; (try with_reducible rfl)
      try simp only [Act.put, List.setIfInBounds_toArray, List.set_cons_zero, List.set_cons_succ]
      refine wpAnyH_take (i := 11) (oi := ⟨some 42, _, _, _, _, none⟩) (v := ?_) rfl (by kernel_rfl) (by kernel_rfl) (by kernel_rfl) (fun _ _ _ h => h) (Or.inl ⟨by rfl, ?_⟩) (by assumption) ?_
      rotate_left
      · intro w hSw; (try dsimp only at hSw); go_simp; (try with_reducible rfl)
      try simp only [Act.put, List.setIfInBounds_toArray, List.set_cons_zero, List.set_cons_succ]
      refine wpAnyH_take (i := 12) (oi := ⟨some 43, _, _, _, _, none⟩) (v := (.pointer (some ⟨ga, oa + k * 3, none⟩))) rfl (by kernel_rfl) (by kernel_rfl) (by kernel_rfl) (fun _ _ _ h => h) (Or.inl ⟨by rfl, ?_⟩) (by assumption) ?_
      · intro w hSw; (try dsimp only at hSw); have q9 : True := trivial; (try go_simp); (try simp [*])
      try simp only [Act.put, List.setIfInBounds_toArray, List.set_cons_zero, List.set_cons_succ]
      refine wpAnyH_take (i := 13) (oi := ⟨some 44, _, _, _, _, none⟩) (v := (.pointer (some ⟨ga, oa + k * 3 + 2, none⟩))) rfl (by kernel_rfl) (by kernel_rfl) (by kernel_rfl) (fun _ _ _ h => h) (Or.inl ⟨by rfl, ?_⟩) (by assumption) ?_
      · intro w hSw; (try dsimp only at hSw); go_simp; (try simp); (try (simp only [IntKind.wrap_i64]; omega))
      try simp only [Act.put, List.setIfInBounds_toArray, List.set_cons_zero, List.set_cons_succ]
      refine wpAnyH_take (i := 14) (oi := ⟨some 45, _, _, _, _, none⟩) (v := (.int .u32 xk)) rfl (by kernel_rfl) (by kernel_rfl) (by kernel_rfl) (fun _ _ _ h => h) (Or.inl ⟨by rfl, ?_⟩) (by assumption) ?_
      · intro w hSw; (try dsimp only at hSw); have q0 : w.cell? ⟨ga, oa + k * 3 + 2, none⟩ = some (.int .u32 xk) := hSw.2.2; (try go_simp); (try simp [*])
      try simp only [Act.put, List.setIfInBounds_toArray, List.set_cons_zero, List.set_cons_succ]
      refine wpAnyH_ready (rs := [15]) (by kernel_rfl) (by simp) ?_
      refine AllReadyH.cons (o := ⟨some 46, _, _, _, _, none⟩) rfl (fun K hK => ?_) AllReadyH.nil
      go_simp
      go_wp2_with (go_at_call 21; refine Calls.mono (EC.out _) ?_; rintro e w2 ⟨gx, rfl, OX, hb⟩)
      have T2 : Hid (TB wb u7 u8 (flatB (AR.take k)) (flatB (AR.take k).reverse) w2) := TU.out.below hb
      have OX2 : Hid (OL 5 1 eB w2 U.heap.size (.slice (some ⟨gx, 0, none⟩) 20 20) (entB ⟨xf, xl, xk⟩) ∧ u7.ownBlock ≠ some gx) := ⟨OX, fun e => by have h1 := (row_lt TU.out.o1 gx e).2; have h2 := (row_lt OX gx rfl).1; omega⟩
      refine hK.out _ _ ⟨(hb.cell (p := ⟨ga, oa + k * 3, none⟩) (lt_of_cell hHeld.1)).trans hHeld.1, (hb.cell (p := ⟨ga, oa + k * 3 + 1, none⟩) (lt_of_cell hHeld.2.1)).trans hHeld.2.1, (hb.cell (p := ⟨ga, oa + k * 3 + 2, none⟩) (lt_of_cell hHeld.2.2)).trans hHeld.2.2⟩ (fun hHeld2 => ?_)
      clear hK K hHeld TU
      have hHeld := hHeld2
      clear hHeld2
      try simp only [Act.put, List.setIfInBounds_toArray, List.set_cons_zero, List.set_cons_succ]
      refine wpAnyH_take (i := 16) (oi := ⟨some 10, _, _, _, _, none⟩) (v := ?_) rfl (by kernel_rfl) (by kernel_rfl) (by kernel_rfl) (fun _ _ _ h => h) (Or.inl ⟨by rfl, ?_⟩) (by assumption) ?_
      rotate_left
      · intro w hSw; (try dsimp only at hSw); go_simp; (try with_reducible rfl)
      try simp only [Act.put, List.setIfInBounds_toArray, List.set_cons_zero, List.set_cons_succ]
      clear hHeld
      refine wpAnyH_done (by kernel_rfl) ?_ _
      refine NoPanic.normal ?_
      obtain ⟨v', W1, s, W2, u', W3, r1, r2, r3, T3⟩ := T2.out.step (nx := 20) (ent_len _).symm (by rw [ent_len]; omega) LN.out.1 LN.out.2 _ OX2.out.1 OX2.out.2
      have T4 : Hid (TB wb v' u' (flatB (AR.take (k + 1))) (flatB (AR.take (k + 1)).reverse) W3) := by rw [NX.out.1, NX.out.2]; exact T3
      clear T3 T2 OX2 NX LN EC y0 y1 y2 hb OX
      go_wp2_with (at_builtin; first | refine wpList_app rfl _ _ 22 rfl u7 (.slice (some ⟨gx, 0, none⟩) 20 20) rfl rfl v' W1 r1 ?_ | refine wpList_app rfl _ _ 22 rfl (.slice (some ⟨W1.heap.size, 0, none⟩) 0 0) (.slice (some ⟨gx, 0, none⟩) 20 20) rfl rfl s W2 r2 ?_ | refine wpList_app rfl _ _ 22 rfl s u8 rfl rfl u' W3 r3 ?_)
      go_roundw
      case rel => exact ⟨k + 1, by omega, by omega, by go_num, T4⟩
      case measure => simp [Go.RowKit.intOf]; omega
    by_cases c1 : k < n0
    · have dk : decide ((k : Int) < (n0 : Int)) = true := decide_eq_true (by omega)
      have d30 : decide ((k : Int) < 30) = false := decide_eq_false (by omega)
      obtain ⟨AK, hAK⟩ : ∃ AK, AR.take k = AK := ⟨_, rfl⟩
      have HAK : Hid ((∀ x ∈ AK, x.wf) ∧ AK.length ≤ 30) := by
        rw [← hAK]
        refine ⟨fun x hx => ?_, by rw [List.length_take]; omega⟩
        obtain ⟨i, hi, rfl⟩ := List.getElem_of_mem (List.mem_of_mem_take hx)
        obtain ⟨_, _, _, _, _, _, _, hw⟩ := HAR.out i hi
        exact hw
      rw [hAK] at T
      obtain ⟨g7, c7, e7, _, _⟩ := ol_form T.out.o1 T.out.n1
      obtain ⟨g8, c8, e8, _, _⟩ := ol_form T.out.o2 T.out.n2
      rw [flatB_len] at e7 e8
      rw [List.length_reverse] at e8
      obtain ⟨n7, hn7⟩ : ∃ n7, AK.length * 20 = n7 := ⟨_, rfl⟩
      have HN7 : Hid (n7 = (flatB AK).length) := by show _ = _; rw [flatB_len]; exact hn7.symm
      have HN8 : Hid (n7 = (flatB AK.reverse).length) := by show _ = _; rw [flatB_len, List.length_reverse]; exact hn7.symm
      have n79 : n7 ≤ 600 := by have := HAK.out.2; omega
      have HNN : Hid (AK.length * 20 = n7) := hn7
      rw [hn7] at e7 e8
      subst e7
      subst e8
      clear hAK hn7
      have OA : Hid (OL 5 1 eB wr wb.heap.size (.slice (some ⟨g7, 0, none⟩) n7 c7) (flatB AK)) := T.out.o1
      have OB : Hid (OL 5 1 eB wr wb.heap.size (.slice (some ⟨g8, 0, none⟩) n7 c8) (flatB AK.reverse)) := T.out.o2
      have BX : Hid (Blk wr kb [.int .u64 mf, .int .u64 ml, .int .u32 mk] 36) := B1.out.below T.out.bel
      have BW : Hid (Below w.heap.size w wr) := below_then B0.out.2.1 T.out.bel
      have FCA : Hid (∀ W : World, OL 5 1 eB W wb.heap.size (.slice (some ⟨g7, 0, none⟩) n7 c7) (flatB AK) → _) := fun W O => frames_own g7 n7 c7 _ (flatB AK) HN7.out (flatB_byt _) a2 0 0 W O
      have FCB : Hid (∀ W : World, OL 5 1 eB W wb.heap.size (.slice (some ⟨g8, 0, none⟩) n7 c8) (flatB AK.reverse) → _) := fun W O => frames_own g8 n7 c8 _ (flatB AK.reverse) HN8.out (flatB_byt _) a2 0 0 W O
      clear T
      go_wp2_with fail
      refine Calls.mono (FCA.out _ OA.out) ?_
      rintro e w2 ⟨v11, z, M, rfl, R11, fz, m9, hb⟩
      have OAq : Hid (OL 5 1 eB w2 wb.heap.size (.slice (some ⟨g7, 0, none⟩) n7 c7) (flatB AK)) := row_below OA.out hb
      have OBq : Hid (OL 5 1 eB w2 wb.heap.size (.slice (some ⟨g8, 0, none⟩) n7 c8) (flatB AK.reverse)) := row_below OB.out hb
      have BXq : Hid (Blk w2 kb [.int .u64 mf, .int .u64 ml, .int .u32 mk] 36) := BX.out.below hb
      have BWq : Hid (Below w.heap.size w w2) := below_then BW.out hb
      clear OA OB BX BW
      have OA := OAq
      have OB := OBq
      have BX := BXq
      have BW := BWq
      clear OAq OBq BXq BWq
      have RM : Hid (RL w2 0 v11 M) := R11.low (Nat.zero_le _)
      have HFA : Hid (FA AK a2 (0, 0) z M ∧ M.length ≤ 5000) := ⟨fz_flat HAK.out.1 (by have := HAK.out.2; omega) (by rw [HNN.out]; exact fz), m9⟩
      clear R11 fz m9 hb FCA
      go_wp2_with fail
      refine Calls.mono (FCB.out _ OB.out) ?_
      rintro e w3 ⟨v13, z2, M2, rfl, R13, fz, m9, hb⟩
      have OAq : Hid (OL 5 1 eB w3 wb.heap.size (.slice (some ⟨g7, 0, none⟩) n7 c7) (flatB AK)) := row_below OA.out hb
      have OBq : Hid (OL 5 1 eB w3 wb.heap.size (.slice (some ⟨g8, 0, none⟩) n7 c8) (flatB AK.reverse)) := row_below OB.out hb
      have BXq : Hid (Blk w3 kb [.int .u64 mf, .int .u64 ml, .int .u32 mk] 36) := BX.out.below hb
      have BWq : Hid (Below w.heap.size w w3) := below_then BW.out hb
      have RMq : Hid (RL w3 0 v11 M) := RM.out.below hb
      clear OA OB BX BW RM
      have OA := OAq
      have OB := OBq
      have BX := BXq
      have BW := BWq
      have RM := RMq
      clear OAq OBq BXq BWq RMq
      obtain ⟨e1, e2⟩ := FA.one (C := AK.reverse) (fun x => List.mem_reverse.symm) HFA.out.1 (fz_flat (A := AK.reverse) (fun x hx => HAK.out.1 x (List.mem_reverse.1 hx)) (by rw [List.length_reverse]; have := HAK.out.2; omega) (by rw [List.length_reverse, HNN.out]; exact fz))
      subst e1
      subst e2
      have RN : Hid (RL w3 0 v13 M) := R13.low (Nat.zero_le _)
      have SC : Hid (∀ W : World, RL W 0 v11 M → RL W 0 v13 M → _) := fun W h q => same_any 0 0 v11 v13 M M true (by simp) (by have := HFA.out.2; omega) (by have := HFA.out.2; omega) W h q
      clear R13 fz m9 hb FCB
      have dz : (z != z) = false := by simp
      go_wp2_with fail
      refine Calls.mono (SC.out _ RM.out RN.out) ?_
      rintro e w4 ⟨rfl, hb⟩
      have OAq : Hid (OL 5 1 eB w4 wb.heap.size (.slice (some ⟨g7, 0, none⟩) n7 c7) (flatB AK)) := row_below OA.out hb
      have OBq : Hid (OL 5 1 eB w4 wb.heap.size (.slice (some ⟨g8, 0, none⟩) n7 c8) (flatB AK.reverse)) := row_below OB.out hb
      have BXq : Hid (Blk w4 kb [.int .u64 mf, .int .u64 ml, .int .u32 mk] 36) := BX.out.below hb
      have BWq : Hid (Below w.heap.size w w4) := below_then BW.out hb
      have RMq : Hid (RL w4 0 v11 M) := RM.out.below hb
      have RNq : Hid (RL w4 0 v13 M) := RN.out.below hb
      clear OA OB BX BW RM RN
      have OA := OAq
      have OB := OBq
      have BX := BXq
      have BW := BWq
      have RM := RMq
      have RN := RNq
      clear OAq OBq BXq BWq RMq RNq
      clear hb SC RN OB dz
      have m0 : w4.cell? ⟨kb, 0, none⟩ = some (.int .u64 mf) := BX.out.cell 0
      have m1 : w4.cell? ⟨kb, 1, none⟩ = some (.int .u64 ml) := BX.out.cell 1
      have m2 : w4.cell? ⟨kb, 2, none⟩ = some (.int .u32 mk) := BX.out.cell 2
      clear BX
      by_cases cz : z = 0
      rotate_left
      · have e1 : (z != 0) = true := by simp [cz]
        go_wp2_with fail
        refine Calls.mono (AC.out _) ?_
        rintro e u1 ⟨rfl, hb⟩
        have BWu : Hid (Below w.heap.size w u1) := below_then BW.out hb
        clear hb
        go_wp2_with fail
        go_ret
        exact ⟨rfl, BWu.out⟩
      subst cz
      by_cases cm : mk = 1
      · have e2 : (mk == 1) = true := by simp [cm]
        have HCM : Hid (mk = 1) := cm
        clear cm
        go_wp2_with fail
        refine Calls.mono (AC.out _) ?_
        rintro e u1 ⟨rfl, hb⟩
        have BWu : Hid (Below w.heap.size w u1) := below_then BW.out hb
        clear hb
        go_wp2_with fail
        go_ret
        exact ⟨rfl, BWu.out⟩
      have e2 : (mk == 1) = false := by simp [cm]
      have HCM : Hid (mk ≠ 1) := cm
      clear cm
      obtain ⟨sm, hsm⟩ : ∃ sm, IntKind.u64.wrap (mf + ml) = sm := ⟨_, rfl⟩
      have HSM : Hid (IntKind.u64.wrap (mf + ml) = sm) := hsm
      by_cases cs : sm < mf
      · have e3 : decide (sm < mf) = true := decide_eq_true cs
        go_wp2_with fail
        refine Calls.mono (AC.out _) ?_
        rintro e u1 ⟨rfl, hb⟩
        have BWu : Hid (Below w.heap.size w u1) := below_then BW.out hb
        clear hb
        go_wp2_with fail
        go_ret
        exact ⟨rfl, BWu.out⟩
      have e3 : decide (sm < mf) = false := decide_eq_false cs
      have HFT : Hid (Fit ⟨mf, ml, mk⟩) := by show ¬ (IntKind.u64.wrap (mf + ml) < mf); rw [HSM.out]; exact cs
      go_upto_region 14 with fail
      clear hsm e3 cs e2
      refine wp_region_noPanic ?_
      refine wp_region_held_drew (S := fun W => W.cell? ⟨kb, 0, none⟩ = some (.int .u64 mf) ∧ W.cell? ⟨kb, 1, none⟩ = some (.int .u64 ml) ∧ W.cell? ⟨kb, 2, none⟩ = some (.int .u32 mk)) (by kernel_rfl) ?_ (fun hHeld => ?_)
      · exact ⟨m0, m1, m2⟩
      have BWU : Hid (Below w.heap.size w w4.drew) := below_drew BW.out
      have RMU : Hid (RL w4.drew 0 v11 M) := RM.out.below (below_drew (Below.refl _ _))
      have OAU : Hid (OL 5 1 eB w4.drew wb.heap.size (.slice (some ⟨g7, 0, none⟩) n7 c7) (flatB AK)) := row_below OA.out (below_drew (Below.refl _ _))
      clear BW RM OA m0 m1 m2
      generalize w4.drew = U at hHeld BWU RMU OAU ⊢
      refine wpAnyH_take (i := 1) (oi := ⟨some 98, _, _, _, _, none⟩) (v := ?_) rfl (by kernel_rfl) (by kernel_rfl) (by kernel_rfl) (fun _ _ _ h => h) (Or.inl ⟨by rfl, ?_⟩) (by assumption) ?_
      rotate_left
      · intro w hSw; (try dsimp only at hSw); go_simp; (try with_reducible rfl)
      try simp only [Act.put, List.setIfInBounds_toArray, List.set_cons_zero, List.set_cons_succ]
      refine wpAnyH_take (i := 3) (oi := ⟨some 100, _, _, _, _, none⟩) (v := (.pointer (some ⟨kb, 0, none⟩))) rfl (by kernel_rfl) (by kernel_rfl) (by kernel_rfl) (fun _ _ _ h => h) (Or.inl ⟨by rfl, ?_⟩) (by assumption) ?_
      · intro w hSw; (try dsimp only at hSw); go_simp; (try simp); (try (simp only [IntKind.wrap_i64]; omega))
      try simp only [Act.put, List.setIfInBounds_toArray, List.set_cons_zero, List.set_cons_succ]
      refine wpAnyH_take (i := 4) (oi := ⟨some 101, _, _, _, _, none⟩) (v := (.int .u64 mf)) rfl (by kernel_rfl) (by kernel_rfl) (by kernel_rfl) (fun _ _ _ h => h) (Or.inl ⟨by rfl, ?_⟩) (by assumption) ?_
      · intro w hSw; (try dsimp only at hSw); have q0 : w.cell? ⟨kb, 0, none⟩ = some (.int .u64 mf) := hSw.1; (try go_simp); (try simp [*])
      try simp only [Act.put, List.setIfInBounds_toArray, List.set_cons_zero, List.set_cons_succ]
      refine wpAnyH_take (i := 5) (oi := ⟨some 102, _, _, _, _, none⟩) (v := (.pointer (some ⟨kb, 1, none⟩))) rfl (by kernel_rfl) (by kernel_rfl) (by kernel_rfl) (fun _ _ _ h => h) (Or.inl ⟨by rfl, ?_⟩) (by assumption) ?_
      · intro w hSw; (try dsimp only at hSw); go_simp; (try simp); (try (simp only [IntKind.wrap_i64]; omega))
      try simp only [Act.put, List.setIfInBounds_toArray, List.set_cons_zero, List.set_cons_succ]
      refine wpAnyH_take (i := 6) (oi := ⟨some 103, _, _, _, _, none⟩) (v := (.int .u64 ml)) rfl (by kernel_rfl) (by kernel_rfl) (by kernel_rfl) (fun _ _ _ h => h) (Or.inl ⟨by rfl, ?_⟩) (by assumption) ?_
      · intro w hSw; (try dsimp only at hSw); have q0 : w.cell? ⟨kb, 1, none⟩ = some (.int .u64 ml) := hSw.2.1; (try go_simp); (try simp [*])
      try simp only [Act.put, List.setIfInBounds_toArray, List.set_cons_zero, List.set_cons_succ]
      refine wpAnyH_take (i := 7) (oi := ⟨some 104, _, _, _, _, none⟩) (v := (.pointer (some ⟨kb, 2, none⟩))) rfl (by kernel_rfl) (by kernel_rfl) (by kernel_rfl) (fun _ _ _ h => h) (Or.inl ⟨by rfl, ?_⟩) (by assumption) ?_
      · intro w hSw; (try dsimp only at hSw); go_simp; (try simp); (try (simp only [IntKind.wrap_i64]; omega))
      try simp only [Act.put, List.setIfInBounds_toArray, List.set_cons_zero, List.set_cons_succ]
      refine wpAnyH_take (i := 8) (oi := ⟨some 105, _, _, _, _, none⟩) (v := (.int .u32 mk)) rfl (by kernel_rfl) (by kernel_rfl) (by kernel_rfl) (fun _ _ _ h => h) (Or.inl ⟨by rfl, ?_⟩) (by assumption) ?_
      · intro w hSw; (try dsimp only at hSw); have q0 : w.cell? ⟨kb, 2, none⟩ = some (.int .u32 mk) := hSw.2.2; (try go_simp); (try simp [*])
      try simp only [Act.put, List.setIfInBounds_toArray, List.set_cons_zero, List.set_cons_succ]
      refine wpAnyH_take (i := 11) (oi := ⟨some 108, _, _, _, _, none⟩) (v := ?_) rfl (by kernel_rfl) (by kernel_rfl) (by kernel_rfl) (fun _ _ _ h => h) (Or.inl ⟨by rfl, ?_⟩) (by assumption) ?_
      rotate_left
      · intro w hSw; (try dsimp only at hSw); go_simp; (try with_reducible rfl)
      try simp only [Act.put, List.setIfInBounds_toArray, List.set_cons_zero, List.set_cons_succ]
      refine wpAnyH_take (i := 12) (oi := ⟨some 109, _, _, _, _, none⟩) (v := (.agg #[.int .i64 0, .int .i64 0])) rfl (by kernel_rfl) (by kernel_rfl) (by kernel_rfl) (fun _ _ _ h => h) (Or.inl ⟨by rfl, ?_⟩) (by assumption) ?_
      · intro w hSw; (try dsimp only at hSw); have q9 : True := trivial; (try go_simp); (try simp [*])
      try simp only [Act.put, List.setIfInBounds_toArray, List.set_cons_zero, List.set_cons_succ]
      have HS0 : Hid (U.cell? ⟨kb, 0, none⟩ = some (.int .u64 mf) ∧ U.cell? ⟨kb, 1, none⟩ = some (.int .u64 ml) ∧ U.cell? ⟨kb, 2, none⟩ = some (.int .u32 mk)) := hHeld
      have SU : Src 1 eB U (some ⟨g7, 0, none⟩) (flatB AK) := fun i hi => ⟨g7, 0, rfl, (row_lt OAU.out g7 rfl).2, ol_cells HN7.out OAU.out i hi⟩
      obtain ⟨g', c', Wc, rc, hoc, hbc⟩ := app_copy eB_len eB_one (by decide) Try.underlying22 infoB rfl (by decide) (some ⟨g7, 0, none⟩) n7 c7 (flatB AK) HN7.out (by rw [← HN7.out]; omega) U SU
      have HOC : Hid (OL 5 1 eB Wc U.heap.size (.slice (some ⟨g', 0, none⟩) n7 c') (flatB AK) ∧ Below U.heap.size U Wc) := ⟨hoc, hbc⟩
      clear hoc hbc SU OAU
      refine wpAnyH_ready (rs := [0]) (by kernel_rfl) (by simp) ?_
      refine AllReadyH.cons (o := ⟨some 97, _, _, _, _, none⟩) rfl (fun K hK => ?_) AllReadyH.nil
      go_simp
      refine hK.out _ _ ⟨((Go.Joins.below_alloc1 U (.cells #[] 5)).cell (p := ⟨kb, 0, none⟩) (lt_of_cell HS0.out.1)).trans HS0.out.1, ((Go.Joins.below_alloc1 U (.cells #[] 5)).cell (p := ⟨kb, 1, none⟩) (lt_of_cell HS0.out.2.1)).trans HS0.out.2.1, ((Go.Joins.below_alloc1 U (.cells #[] 5)).cell (p := ⟨kb, 2, none⟩) (lt_of_cell HS0.out.2.2)).trans HS0.out.2.2⟩ (fun hHeld2 => ?_)
      clear hK K hHeld
      try simp only [Act.put, List.setIfInBounds_toArray, List.set_cons_zero, List.set_cons_succ]
      refine wpAnyH_ready (rs := [2]) (by kernel_rfl) (by simp) ?_
      refine AllReadyH.cons (o := ⟨some 99, _, _, _, _, none⟩) rfl (fun K hK => ?_) AllReadyH.nil
      refine wanted_mp rfl ?_
      refine wp_app _ _ 22 rfl (.slice (some ⟨U.heap.size, 0, none⟩) 0 0) (.slice (some ⟨g7, 0, none⟩) n7 c7) rfl rfl (.slice (some ⟨g', 0, none⟩) n7 c') Wc rc ?_
      refine hK.out _ _ ⟨(HOC.out.2.cell (p := ⟨kb, 0, none⟩) (lt_of_cell HS0.out.1)).trans HS0.out.1, (HOC.out.2.cell (p := ⟨kb, 1, none⟩) (lt_of_cell HS0.out.2.1)).trans HS0.out.2.1, (HOC.out.2.cell (p := ⟨kb, 2, none⟩) (lt_of_cell HS0.out.2.2)).trans HS0.out.2.2⟩ (fun hHeld => ?_)
      have HSU := HS0
      clear hK K hHeld2 rc HS0
      try simp only [Act.put, List.setIfInBounds_toArray, List.set_cons_zero, List.set_cons_succ]
      refine wpAnyH_ready (rs := [9]) (by kernel_rfl) (by simp) ?_
      refine AllReadyH.cons (o := ⟨some 106, _, _, _, _, none⟩) rfl (fun K hK => ?_) AllReadyH.nil
      go_simp
      go_wp2_with (go_at_call 21; refine Calls.mono (EM.out _) ?_; rintro e w6 ⟨gx, rfl, OX, hb⟩)
      obtain ⟨v', W7, r7, ho7, hg7, hat7⟩ := app_all eB_len eB_one (by decide) Try.underlying22 infoB rfl (by decide) U.heap.size (.slice (some ⟨g', 0, none⟩) n7 c') (flatB AK) (entB ⟨mf, ml, mk⟩) gx 0 20 20 (ent_len _).symm (by rw [← HN7.out, ent_len]; omega) w6 (row_below HOC.out.1 hb) (ol_cells (ent_len _).symm OX) (Nat.le_trans HOC.out.2.size hb.size)
      have B7 : Below U.heap.size U W7 := (below_then HOC.out.2 hb).grown hg7 (below_then HOC.out.2 hb).size (fun g e => (row_lt HOC.out.1 g e).1)
      have B67 : Below U.heap.size U w6 := below_then HOC.out.2 hb
      obtain ⟨g9, c9, e9, _, _⟩ := ol_form ho7 (hat7.elim (fun h => ⟨g', by rw [h]; rfl⟩) (fun h => ⟨_, h⟩))
      have LN9 : (flatB AK ++ entB ⟨mf, ml, mk⟩).length = (AK ++ [(⟨mf, ml, mk⟩ : Ar)]).length * 20 := by rw [List.length_append, flatB_len, ent_len, List.length_append]; simp; omega
      have FL9 : flatB AK ++ entB ⟨mf, ml, mk⟩ = flatB (AK ++ [⟨mf, ml, mk⟩]) := by rw [flatB_app, flatB_cons, flatB_nil, List.append_nil]
      rw [FL9] at e9 ho7
      rw [flatB_len] at e9
      obtain ⟨n9, hn9⟩ : ∃ n9, (AK ++ [(⟨mf, ml, mk⟩ : Ar)]).length * 20 = n9 := ⟨_, rfl⟩
      have HN9 : Hid (n9 = (AK ++ [(⟨mf, ml, mk⟩ : Ar)]).length * 20) := hn9.symm
      rw [hn9] at e9
      subst e9
      have H7 : Hid (OL 5 1 eB W7 U.heap.size (.slice (some ⟨g9, 0, none⟩) n9 c9) (flatB (AK ++ [⟨mf, ml, mk⟩])) ∧ Below U.heap.size U W7) := ⟨ho7, B7⟩
      have FC9 : Hid (∀ W : World, OL 5 1 eB W U.heap.size (.slice (some ⟨g9, 0, none⟩) n9 c9) (flatB (AK ++ [⟨mf, ml, mk⟩])) → _) := fun W O => frames_own g9 n9 c9 _ (flatB (AK ++ [⟨mf, ml, mk⟩])) (by rw [flatB_len]; exact HN9.out) (flatB_byt _) a2 0 0 W O
      have HS6 : Hid (w6.cell? ⟨kb, 0, none⟩ = some (.int .u64 mf) ∧ w6.cell? ⟨kb, 1, none⟩ = some (.int .u64 ml) ∧ w6.cell? ⟨kb, 2, none⟩ = some (.int .u32 mk)) := ⟨(hb.cell (p := ⟨kb, 0, none⟩) (lt_of_cell hHeld.1)).trans hHeld.1, (hb.cell (p := ⟨kb, 1, none⟩) (lt_of_cell hHeld.2.1)).trans hHeld.2.1, (hb.cell (p := ⟨kb, 2, none⟩) (lt_of_cell hHeld.2.2)).trans hHeld.2.2⟩
      have HS7 : Hid (W7.cell? ⟨kb, 0, none⟩ = some (.int .u64 mf) ∧ W7.cell? ⟨kb, 1, none⟩ = some (.int .u64 ml) ∧ W7.cell? ⟨kb, 2, none⟩ = some (.int .u32 mk)) := ⟨(B7.cell (p := ⟨kb, 0, none⟩) (lt_of_cell HSU.out.1)).trans HSU.out.1, (B7.cell (p := ⟨kb, 1, none⟩) (lt_of_cell HSU.out.2.1)).trans HSU.out.2.1, (B7.cell (p := ⟨kb, 2, none⟩) (lt_of_cell HSU.out.2.2)).trans HSU.out.2.2⟩
      refine hK.out _ _ HS6.out (fun hHeld2 => ?_)
      clear hK K hHeld hat7 hg7 ho7 B7 B67 LN9 FL9 hn9 OX hb HS6
      have hHeld := hHeld2
      clear hHeld2
      try simp only [Act.put, List.setIfInBounds_toArray, List.set_cons_zero, List.set_cons_succ]
      refine wpAnyH_ready (rs := [10]) (by kernel_rfl) (by simp) ?_
      refine AllReadyH.cons (o := ⟨some 107, _, _, _, _, none⟩) rfl (fun K hK => ?_) AllReadyH.nil
      refine wanted_mp rfl ?_
      refine wp_app _ _ 22 rfl (.slice (some ⟨g', 0, none⟩) n7 c') (.slice (some ⟨gx, 0, none⟩) 20 20) rfl rfl (.slice (some ⟨g9, 0, none⟩) n9 c9) W7 r7 ?_
      refine hK.out _ _ HS7.out (fun hHeld2 => ?_)
      clear hK K hHeld r7
      have hHeld := hHeld2
      clear hHeld2
      try simp only [Act.put, List.setIfInBounds_toArray, List.set_cons_zero, List.set_cons_succ]
      refine wpAnyH_ready (rs := [13]) (by kernel_rfl) (by simp) ?_
      refine AllReadyH.cons (o := ⟨some 110, _, _, _, _, none⟩) rfl (fun K hK => ?_) AllReadyH.nil
      go_simp
      go_wp2_with (go_at_call 18; refine Calls.mono (FC9.out _ H7.out.1) ?_; rintro e w8 ⟨v15, z3, M3, rfl, R15, fz3, m93, hb⟩)
      have END : Hid (FA (AK ++ [⟨mf, ml, mk⟩]) a2 (0, 0) z3 M3 ∧ M3.length ≤ 5000 ∧ RL w8 0 v15 M3 ∧ RL w8 0 v11 M ∧ Below w.heap.size w w8) := ⟨fz_flat (fun x hx => (List.mem_append.1 hx).elim (fun h => HAK.out.1 x h) (fun h => by rw [List.mem_singleton.1 h]; exact HW1.out)) (by rw [List.length_append]; have := HAK.out.2; simp; omega) (by rw [← HN9.out]; exact fz3), m93, R15.low (Nat.zero_le _), (RMU.out.below H7.out.2).below hb, below_then (below_then BWU.out H7.out.2) hb⟩
      refine hK.out _ _ ⟨(hb.cell (p := ⟨kb, 0, none⟩) (lt_of_cell hHeld.1)).trans hHeld.1, (hb.cell (p := ⟨kb, 1, none⟩) (lt_of_cell hHeld.2.1)).trans hHeld.2.1, (hb.cell (p := ⟨kb, 2, none⟩) (lt_of_cell hHeld.2.2)).trans hHeld.2.2⟩ (fun hHeld2 => ?_)
      clear hK K hHeld R15 fz3 m93 hb FC9 H7 HS7 HSU HOC RMU BWU HN9
      have hHeld := hHeld2
      clear hHeld2
      try simp only [Act.put, List.setIfInBounds_toArray, List.set_cons_zero, List.set_cons_succ]
      refine wpAnyH_take (i := 14) (oi := ⟨some 96, _, _, _, _, none⟩) (v := ?_) rfl (by kernel_rfl) (by kernel_rfl) (by kernel_rfl) (fun _ _ _ h => h) (Or.inl ⟨by rfl, ?_⟩) (by assumption) ?_
      rotate_left
      · intro w hSw; (try dsimp only at hSw); go_simp; (try with_reducible rfl)
      try simp only [Act.put, List.setIfInBounds_toArray, List.set_cons_zero, List.set_cons_succ]
      refine wpAnyH_take (i := 15) (oi := ⟨some 111, _, _, _, _, none⟩) (v := ?_) rfl (by kernel_rfl) (by kernel_rfl) (by kernel_rfl) (fun _ _ _ h => h) (Or.inl ⟨by rfl, ?_⟩) (by assumption) ?_
      rotate_left
      · intro w hSw; (try dsimp only at hSw); go_simp; (try with_reducible rfl)
      try simp only [Act.put, List.setIfInBounds_toArray, List.set_cons_zero, List.set_cons_succ]
      refine wpAnyH_take (i := 16) (oi := ⟨some 112, _, _, _, _, none⟩) (v := ?_) rfl (by kernel_rfl) (by kernel_rfl) (by kernel_rfl) (fun _ _ _ h => h) (Or.inl ⟨by rfl, ?_⟩) (by assumption) ?_
      rotate_left
      · intro w hSw; (try dsimp only at hSw); go_simp; (try with_reducible rfl)
      try simp only [Act.put, List.setIfInBounds_toArray, List.set_cons_zero, List.set_cons_succ]
      refine wpAnyH_take (i := 17) (oi := ⟨some 15, _, _, _, _, none⟩) (v := ?_) rfl (by kernel_rfl) (by kernel_rfl) (by kernel_rfl) (fun _ _ _ h => h) (Or.inl ⟨by rfl, ?_⟩) (by assumption) ?_
      rotate_left
      · intro w hSw; (try dsimp only at hSw); go_simp; (try with_reducible rfl)
      try simp only [Act.put, List.setIfInBounds_toArray, List.set_cons_zero, List.set_cons_succ]
      refine wpAnyH_take (i := 18) (oi := ⟨some 16, _, _, _, _, none⟩) (v := ?_) rfl (by kernel_rfl) (by kernel_rfl) (by kernel_rfl) (fun _ _ _ h => h) (Or.inl ⟨by rfl, ?_⟩) (by assumption) ?_
      rotate_left
      · intro w hSw; (try dsimp only at hSw); go_simp; (try with_reducible rfl)
      try simp only [Act.put, List.setIfInBounds_toArray, List.set_cons_zero, List.set_cons_succ]
      clear hHeld
      refine wpAnyH_done (by kernel_rfl) ?_ _
      refine NoPanic.normal ?_
      have MORE : Hid (_) := FA.more HCM.out HFT.out HFA.out.1 END.out.1
      have BDS : Hid (_) := FA.bd (fun x hx => (List.mem_append.1 hx).elim (fun h => HAK.out.1 x h) (fun h => by rw [List.mem_singleton.1 h]; exact HW1.out)) END.out.1
      rcases MORE.out.1 with z0 | ⟨z7, k0⟩
      rotate_left
      · subst z7
        subst k0
        obtain ⟨p15, c15, e15, _, _, _⟩ := END.out.2.2.1.form
        have e15 : v15 = .slice p15 0 c15 := e15
        subst e15
        go_wp2_with fail
        refine Calls.mono (AC.out _) ?_
        rintro e u1 ⟨rfl, hb⟩
        have BWu : Hid (Below w.heap.size w u1) := below_then END.out.2.2.2.2 hb
        clear hb
        go_wp2_with fail
        go_ret
        exact ⟨rfl, BWu.out⟩
      subst z0
      obtain ⟨pm, cm, hvm, _, _, rd⟩ := END.out.2.2.1.form
      have RD : Hid (∀ i (hi : i < M3.length), ∃ g o, pm = some ⟨g, o, none⟩ ∧ 0 ≤ g ∧ g < w8.heap.size ∧ ∀ j, j < 2 → w8.cell? ⟨g, o + i * 2 + j, none⟩ = (eR M3[i])[j]?) := rd
      obtain ⟨m, hm⟩ : ∃ m, M3.length = m := ⟨_, rfl⟩
      have HM3 : Hid (M3.length = m) := hm
      have m95 : m ≤ 5000 := by rw [← hm]; exact END.out.2.1
      have BW8 : Hid (Below w.heap.size w w8 ∧ RL w8 0 v11 M) := ⟨END.out.2.2.2.2, END.out.2.2.2.1⟩
      have INS : Hid (∀ r ∈ M3, Has M r.1 ∧ Has M (r.2 - 1)) := MORE.out.2
      have SMC : Hid (∀ (x : Int) (W : World), Has M x → RL W 0 v11 M → _) := fun x W h q => some_any 0 v11 M x true (by simp [h]) (by have := HFA.out.2; omega) W q
      rw [hm] at hvm
      subst hvm
      clear rd hm END MORE HFA
      go_wp2_with fail
      go_loopw [18, 123] (fun _ i W => ∃ j : Nat, j ≤ m ∧ i = .int .i64 j ∧ Hid (Below w8.heap.size w8 W)) (fun _ i _ => m - (Go.RowKit.intOf i).toNat)
      case atStart => exact ⟨0, by omega, rfl, Below.refl _ _⟩
      case round =>
        obtain ⟨j, hj, rfl, hb⟩ := hrel
        by_cases cj : j < m
        rotate_left
        · obtain rfl : j = m := by omega
          have dj : decide ((j : Int) < (j : Int)) = false := by simp
          have BWn : Hid (Below w.heap.size w wr) := below_then BW8.out.1 hb.out
          go_wp2_with fail
          refine Calls.mono (AC.out _) ?_
          rintro e u1 ⟨rfl, hb⟩
          have BWu : Hid (Below w.heap.size w u1) := below_then BWn.out hb
          clear hb
          go_wp2_with fail
          go_ret
          exact ⟨rfl, BWu.out⟩
        have dj : decide ((j : Int) < (m : Int)) = true := decide_eq_true (by omega)
        have d0 : decide ((j : Int) < 0) = false := by simp
        have jL : j < M3.length := by rw [HM3.out]; exact cj
        obtain ⟨gr, orr, rfl, _, lg, rc⟩ := RD.out j jL
        have y0 : wr.cell? ⟨gr, orr + j * 2, none⟩ = some (.int .i64 M3[j].1) := (World.cell?_of_block (hb.out.block gr lg)).trans (rc 0 (by omega))
        have y1 : wr.cell? ⟨gr, orr + j * 2 + 1, none⟩ = some (.int .i64 M3[j].2) := (World.cell?_of_block (hb.out.block gr lg)).trans (rc 1 (by omega))
        have IN := INS.out M3[j] (List.getElem_mem jL)
        have BD := BDS.out M3[j] (List.getElem_mem jL)
        generalize M3[j].1 = ra at y0 IN BD
        generalize M3[j].2 = rb at y1 IN BD
        have wv : IntKind.i64.wrap (rb - 1) = rb - 1 := by rw [IntKind.wrap_i64]; omega
        have HIN : Hid (Has M ra ∧ Has M (rb - 1)) := IN
        have NB : Hid (Below w8.heap.size w8 (wr.alloc (.cells #[.int .i64 ra, .int .i64 rb] 44)) ∧ RL (wr.alloc (.cells #[.int .i64 ra, .int .i64 rb] 44)) 0 v11 M) := ⟨below_new hb.out _, BW8.out.2.below (below_new hb.out _)⟩
        have BXR : Hid (Blk (wr.alloc (.cells #[.int .i64 ra, .int .i64 rb] 44)) wr.heap.size [.int .i64 ra, .int .i64 rb] 44) := Blk.made wr [.int .i64 ra, .int .i64 rb] 44
        clear rc lg IN BD hb
        go_upto_region 20 with fail
        clear y0 y1
        generalize wr.alloc (.cells #[.int .i64 ra, .int .i64 rb] 44) = wx at NB BXR ⊢
        generalize wr.heap.size = xb at BXR ⊢
        have z0 : wx.cell? ⟨xb, 0, none⟩ = some (.int .i64 ra) := BXR.out.cell 0
        have z1 : wx.cell? ⟨xb, 1, none⟩ = some (.int .i64 rb) := BXR.out.cell 1
        go_wp2_with fail
        refine Calls.mono (SMC.out ra wx HIN.out.1 NB.out.2) ?_
        rintro e wy ⟨rfl, hb⟩
        have NB2 : Hid (Below w8.heap.size w8 wy ∧ RL wy 0 v11 M) := ⟨below_then NB.out.1 hb, NB.out.2.below hb⟩
        have z3' : wy.cell? ⟨xb, 1, none⟩ = some (.int .i64 rb) := (BXR.out.below hb).cell 1
        clear hb z0 z1 NB BXR
        go_wp2_with fail
        refine Calls.mono (SMC.out (rb - 1) wy HIN.out.2 NB2.out.2) ?_
        rintro e wz ⟨rfl, hb⟩
        have NB3 : Hid (Below w8.heap.size w8 wz) := below_then NB2.out.1 hb
        clear hb NB2 z3'
        go_wp2_with fail
        go_roundw
        case rel => exact ⟨j + 1, by omega, by go_num, NB3⟩
        case measure => simp [Go.RowKit.intOf]; omega
    · obtain rfl : k = n0 := by omega
      have dk : decide ((k : Int) < (k : Int)) = false := by simp
      obtain ⟨AK, hAK⟩ : ∃ AK, AR.take k = AK := ⟨_, rfl⟩
      have HAK : Hid ((∀ x ∈ AK, x.wf) ∧ AK.length ≤ 30) := by
        rw [← hAK]
        refine ⟨fun x hx => ?_, by rw [List.length_take]; omega⟩
        obtain ⟨i, hi, rfl⟩ := List.getElem_of_mem (List.mem_of_mem_take hx)
        obtain ⟨_, _, _, _, _, _, _, hw⟩ := HAR.out i hi
        exact hw
      rw [hAK] at T
      obtain ⟨g7, c7, e7, _, _⟩ := ol_form T.out.o1 T.out.n1
      obtain ⟨g8, c8, e8, _, _⟩ := ol_form T.out.o2 T.out.n2
      rw [flatB_len] at e7 e8
      rw [List.length_reverse] at e8
      obtain ⟨n7, hn7⟩ : ∃ n7, AK.length * 20 = n7 := ⟨_, rfl⟩
      have HN7 : Hid (n7 = (flatB AK).length) := by show _ = _; rw [flatB_len]; exact hn7.symm
      have HN8 : Hid (n7 = (flatB AK.reverse).length) := by show _ = _; rw [flatB_len, List.length_reverse]; exact hn7.symm
      have n79 : n7 ≤ 600 := by have := HAK.out.2; omega
      have HNN : Hid (AK.length * 20 = n7) := hn7
      rw [hn7] at e7 e8
      subst e7
      subst e8
      clear hAK hn7
      have OA : Hid (OL 5 1 eB wr wb.heap.size (.slice (some ⟨g7, 0, none⟩) n7 c7) (flatB AK)) := T.out.o1
      have OB : Hid (OL 5 1 eB wr wb.heap.size (.slice (some ⟨g8, 0, none⟩) n7 c8) (flatB AK.reverse)) := T.out.o2
      have BX : Hid (Blk wr kb [.int .u64 mf, .int .u64 ml, .int .u32 mk] 36) := B1.out.below T.out.bel
      have BW : Hid (Below w.heap.size w wr) := below_then B0.out.2.1 T.out.bel
      have FCA : Hid (∀ W : World, OL 5 1 eB W wb.heap.size (.slice (some ⟨g7, 0, none⟩) n7 c7) (flatB AK) → _) := fun W O => frames_own g7 n7 c7 _ (flatB AK) HN7.out (flatB_byt _) a2 0 0 W O
      have FCB : Hid (∀ W : World, OL 5 1 eB W wb.heap.size (.slice (some ⟨g8, 0, none⟩) n7 c8) (flatB AK.reverse) → _) := fun W O => frames_own g8 n7 c8 _ (flatB AK.reverse) HN8.out (flatB_byt _) a2 0 0 W O
      clear T
      go_wp2_with fail
      refine Calls.mono (FCA.out _ OA.out) ?_
      rintro e w2 ⟨v11, z, M, rfl, R11, fz, m9, hb⟩
      have OAq : Hid (OL 5 1 eB w2 wb.heap.size (.slice (some ⟨g7, 0, none⟩) n7 c7) (flatB AK)) := row_below OA.out hb
      have OBq : Hid (OL 5 1 eB w2 wb.heap.size (.slice (some ⟨g8, 0, none⟩) n7 c8) (flatB AK.reverse)) := row_below OB.out hb
      have BXq : Hid (Blk w2 kb [.int .u64 mf, .int .u64 ml, .int .u32 mk] 36) := BX.out.below hb
      have BWq : Hid (Below w.heap.size w w2) := below_then BW.out hb
      clear OA OB BX BW
      have OA := OAq
      have OB := OBq
      have BX := BXq
      have BW := BWq
      clear OAq OBq BXq BWq
      have RM : Hid (RL w2 0 v11 M) := R11.low (Nat.zero_le _)
      have HFA : Hid (FA AK a2 (0, 0) z M ∧ M.length ≤ 5000) := ⟨fz_flat HAK.out.1 (by have := HAK.out.2; omega) (by rw [HNN.out]; exact fz), m9⟩
      clear R11 fz m9 hb FCA
      go_wp2_with fail
      refine Calls.mono (FCB.out _ OB.out) ?_
      rintro e w3 ⟨v13, z2, M2, rfl, R13, fz, m9, hb⟩
      have OAq : Hid (OL 5 1 eB w3 wb.heap.size (.slice (some ⟨g7, 0, none⟩) n7 c7) (flatB AK)) := row_below OA.out hb
      have OBq : Hid (OL 5 1 eB w3 wb.heap.size (.slice (some ⟨g8, 0, none⟩) n7 c8) (flatB AK.reverse)) := row_below OB.out hb
      have BXq : Hid (Blk w3 kb [.int .u64 mf, .int .u64 ml, .int .u32 mk] 36) := BX.out.below hb
      have BWq : Hid (Below w.heap.size w w3) := below_then BW.out hb
      have RMq : Hid (RL w3 0 v11 M) := RM.out.below hb
      clear OA OB BX BW RM
      have OA := OAq
      have OB := OBq
      have BX := BXq
      have BW := BWq
      have RM := RMq
      clear OAq OBq BXq BWq RMq
      obtain ⟨e1, e2⟩ := FA.one (C := AK.reverse) (fun x => List.mem_reverse.symm) HFA.out.1 (fz_flat (A := AK.reverse) (fun x hx => HAK.out.1 x (List.mem_reverse.1 hx)) (by rw [List.length_reverse]; have := HAK.out.2; omega) (by rw [List.length_reverse, HNN.out]; exact fz))
      subst e1
      subst e2
      have RN : Hid (RL w3 0 v13 M) := R13.low (Nat.zero_le _)
      have SC : Hid (∀ W : World, RL W 0 v11 M → RL W 0 v13 M → _) := fun W h q => same_any 0 0 v11 v13 M M true (by simp) (by have := HFA.out.2; omega) (by have := HFA.out.2; omega) W h q
      clear R13 fz m9 hb FCB
      have dz : (z != z) = false := by simp
      go_wp2_with fail
      refine Calls.mono (SC.out _ RM.out RN.out) ?_
      rintro e w4 ⟨rfl, hb⟩
      have OAq : Hid (OL 5 1 eB w4 wb.heap.size (.slice (some ⟨g7, 0, none⟩) n7 c7) (flatB AK)) := row_below OA.out hb
      have OBq : Hid (OL 5 1 eB w4 wb.heap.size (.slice (some ⟨g8, 0, none⟩) n7 c8) (flatB AK.reverse)) := row_below OB.out hb
      have BXq : Hid (Blk w4 kb [.int .u64 mf, .int .u64 ml, .int .u32 mk] 36) := BX.out.below hb
      have BWq : Hid (Below w.heap.size w w4) := below_then BW.out hb
      have RMq : Hid (RL w4 0 v11 M) := RM.out.below hb
      have RNq : Hid (RL w4 0 v13 M) := RN.out.below hb
      clear OA OB BX BW RM RN
      have OA := OAq
      have OB := OBq
      have BX := BXq
      have BW := BWq
      have RM := RMq
      have RN := RNq
      clear OAq OBq BXq BWq RMq RNq
      clear hb SC RN OB dz
      have m0 : w4.cell? ⟨kb, 0, none⟩ = some (.int .u64 mf) := BX.out.cell 0
      have m1 : w4.cell? ⟨kb, 1, none⟩ = some (.int .u64 ml) := BX.out.cell 1
      have m2 : w4.cell? ⟨kb, 2, none⟩ = some (.int .u32 mk) := BX.out.cell 2
      clear BX
      by_cases cz : z = 0
      rotate_left
      · have e1 : (z != 0) = true := by simp [cz]
        go_wp2_with fail
        refine Calls.mono (AC.out _) ?_
        rintro e u1 ⟨rfl, hb⟩
        have BWu : Hid (Below w.heap.size w u1) := below_then BW.out hb
        clear hb
        go_wp2_with fail
        go_ret
        exact ⟨rfl, BWu.out⟩
      subst cz
      by_cases cm : mk = 1
      · have e2 : (mk == 1) = true := by simp [cm]
        have HCM : Hid (mk = 1) := cm
        clear cm
        go_wp2_with fail
        refine Calls.mono (AC.out _) ?_
        rintro e u1 ⟨rfl, hb⟩
        have BWu : Hid (Below w.heap.size w u1) := below_then BW.out hb
        clear hb
        go_wp2_with fail
        go_ret
        exact ⟨rfl, BWu.out⟩
      have e2 : (mk == 1) = false := by simp [cm]
      have HCM : Hid (mk ≠ 1) := cm
      clear cm
      obtain ⟨sm, hsm⟩ : ∃ sm, IntKind.u64.wrap (mf + ml) = sm := ⟨_, rfl⟩
      have HSM : Hid (IntKind.u64.wrap (mf + ml) = sm) := hsm
      by_cases cs : sm < mf
      · have e3 : decide (sm < mf) = true := decide_eq_true cs
        go_wp2_with fail
        refine Calls.mono (AC.out _) ?_
        rintro e u1 ⟨rfl, hb⟩
        have BWu : Hid (Below w.heap.size w u1) := below_then BW.out hb
        clear hb
        go_wp2_with fail
        go_ret
        exact ⟨rfl, BWu.out⟩
      have e3 : decide (sm < mf) = false := decide_eq_false cs
      have HFT : Hid (Fit ⟨mf, ml, mk⟩) := by show ¬ (IntKind.u64.wrap (mf + ml) < mf); rw [HSM.out]; exact cs
      go_upto_region 14 with fail
      clear hsm e3 cs e2
      refine wp_region_noPanic ?_
      refine wp_region_held_drew (S := fun W => W.cell? ⟨kb, 0, none⟩ = some (.int .u64 mf) ∧ W.cell? ⟨kb, 1, none⟩ = some (.int .u64 ml) ∧ W.cell? ⟨kb, 2, none⟩ = some (.int .u32 mk)) (by kernel_rfl) ?_ (fun hHeld => ?_)
      · exact ⟨m0, m1, m2⟩
      have BWU : Hid (Below w.heap.size w w4.drew) := below_drew BW.out
      have RMU : Hid (RL w4.drew 0 v11 M) := RM.out.below (below_drew (Below.refl _ _))
      have OAU : Hid (OL 5 1 eB w4.drew wb.heap.size (.slice (some ⟨g7, 0, none⟩) n7 c7) (flatB AK)) := row_below OA.out (below_drew (Below.refl _ _))
      clear BW RM OA m0 m1 m2
      generalize w4.drew = U at hHeld BWU RMU OAU ⊢
      refine wpAnyH_take (i := 1) (oi := ⟨some 98, _, _, _, _, none⟩) (v := ?_) rfl (by kernel_rfl) (by kernel_rfl) (by kernel_rfl) (fun _ _ _ h => h) (Or.inl ⟨by rfl, ?_⟩) (by assumption) ?_
      rotate_left
      · intro w hSw; (try dsimp only at hSw); go_simp; (try with_reducible rfl)
      try simp only [Act.put, List.setIfInBounds_toArray, List.set_cons_zero, List.set_cons_succ]
      refine wpAnyH_take (i := 3) (oi := ⟨some 100, _, _, _, _, none⟩) (v := (.pointer (some ⟨kb, 0, none⟩))) rfl (by kernel_rfl) (by kernel_rfl) (by kernel_rfl) (fun _ _ _ h => h) (Or.inl ⟨by rfl, ?_⟩) (by assumption) ?_
      · intro w hSw; (try dsimp only at hSw); go_simp; (try simp); (try (simp only [IntKind.wrap_i64]; omega))
      try simp only [Act.put, List.setIfInBounds_toArray, List.set_cons_zero, List.set_cons_succ]
      refine wpAnyH_take (i := 4) (oi := ⟨some 101, _, _, _, _, none⟩) (v := (.int .u64 mf)) rfl (by kernel_rfl) (by kernel_rfl) (by kernel_rfl) (fun _ _ _ h => h) (Or.inl ⟨by rfl, ?_⟩) (by assumption) ?_
      · intro w hSw; (try dsimp only at hSw); have q0 : w.cell? ⟨kb, 0, none⟩ = some (.int .u64 mf) := hSw.1; (try go_simp); (try simp [*])
      try simp only [Act.put, List.setIfInBounds_toArray, List.set_cons_zero, List.set_cons_succ]
      refine wpAnyH_take (i := 5) (oi := ⟨some 102, _, _, _, _, none⟩) (v := (.pointer (some ⟨kb, 1, none⟩))) rfl (by kernel_rfl) (by kernel_rfl) (by kernel_rfl) (fun _ _ _ h => h) (Or.inl ⟨by rfl, ?_⟩) (by assumption) ?_
      · intro w hSw; (try dsimp only at hSw); go_simp; (try simp); (try (simp only [IntKind.wrap_i64]; omega))
      try simp only [Act.put, List.setIfInBounds_toArray, List.set_cons_zero, List.set_cons_succ]
      refine wpAnyH_take (i := 6) (oi := ⟨some 103, _, _, _, _, none⟩) (v := (.int .u64 ml)) rfl (by kernel_rfl) (by kernel_rfl) (by kernel_rfl) (fun _ _ _ h => h) (Or.inl ⟨by rfl, ?_⟩) (by assumption) ?_
      · intro w hSw; (try dsimp only at hSw); have q0 : w.cell? ⟨kb, 1, none⟩ = some (.int .u64 ml) := hSw.2.1; (try go_simp); (try simp [*])
      try simp only [Act.put, List.setIfInBounds_toArray, List.set_cons_zero, List.set_cons_succ]
      refine wpAnyH_take (i := 7) (oi := ⟨some 104, _, _, _, _, none⟩) (v := (.pointer (some ⟨kb, 2, none⟩))) rfl (by kernel_rfl) (by kernel_rfl) (by kernel_rfl) (fun _ _ _ h => h) (Or.inl ⟨by rfl, ?_⟩) (by assumption) ?_
      · intro w hSw; (try dsimp only at hSw); go_simp; (try simp); (try (simp only [IntKind.wrap_i64]; omega))
      try simp only [Act.put, List.setIfInBounds_toArray, List.set_cons_zero, List.set_cons_succ]
      refine wpAnyH_take (i := 8) (oi := ⟨some 105, _, _, _, _, none⟩) (v := (.int .u32 mk)) rfl (by kernel_rfl) (by kernel_rfl) (by kernel_rfl) (fun _ _ _ h => h) (Or.inl ⟨by rfl, ?_⟩) (by assumption) ?_
      · intro w hSw; (try dsimp only at hSw); have q0 : w.cell? ⟨kb, 2, none⟩ = some (.int .u32 mk) := hSw.2.2; (try go_simp); (try simp [*])
      try simp only [Act.put, List.setIfInBounds_toArray, List.set_cons_zero, List.set_cons_succ]
      refine wpAnyH_take (i := 11) (oi := ⟨some 108, _, _, _, _, none⟩) (v := ?_) rfl (by kernel_rfl) (by kernel_rfl) (by kernel_rfl) (fun _ _ _ h => h) (Or.inl ⟨by rfl, ?_⟩) (by assumption) ?_
      rotate_left
      · intro w hSw; (try dsimp only at hSw); go_simp; (try with_reducible rfl)
      try simp only [Act.put, List.setIfInBounds_toArray, List.set_cons_zero, List.set_cons_succ]
      refine wpAnyH_take (i := 12) (oi := ⟨some 109, _, _, _, _, none⟩) (v := (.agg #[.int .i64 0, .int .i64 0])) rfl (by kernel_rfl) (by kernel_rfl) (by kernel_rfl) (fun _ _ _ h => h) (Or.inl ⟨by rfl, ?_⟩) (by assumption) ?_
      · intro w hSw; (try dsimp only at hSw); have q9 : True := trivial; (try go_simp); (try simp [*])
      try simp only [Act.put, List.setIfInBounds_toArray, List.set_cons_zero, List.set_cons_succ]
      have HS0 : Hid (U.cell? ⟨kb, 0, none⟩ = some (.int .u64 mf) ∧ U.cell? ⟨kb, 1, none⟩ = some (.int .u64 ml) ∧ U.cell? ⟨kb, 2, none⟩ = some (.int .u32 mk)) := hHeld
      have SU : Src 1 eB U (some ⟨g7, 0, none⟩) (flatB AK) := fun i hi => ⟨g7, 0, rfl, (row_lt OAU.out g7 rfl).2, ol_cells HN7.out OAU.out i hi⟩
      obtain ⟨g', c', Wc, rc, hoc, hbc⟩ := app_copy eB_len eB_one (by decide) Try.underlying22 infoB rfl (by decide) (some ⟨g7, 0, none⟩) n7 c7 (flatB AK) HN7.out (by rw [← HN7.out]; omega) U SU
      have HOC : Hid (OL 5 1 eB Wc U.heap.size (.slice (some ⟨g', 0, none⟩) n7 c') (flatB AK) ∧ Below U.heap.size U Wc) := ⟨hoc, hbc⟩
      clear hoc hbc SU OAU
      refine wpAnyH_ready (rs := [0]) (by kernel_rfl) (by simp) ?_
      refine AllReadyH.cons (o := ⟨some 97, _, _, _, _, none⟩) rfl (fun K hK => ?_) AllReadyH.nil
      go_simp
      refine hK.out _ _ ⟨((Go.Joins.below_alloc1 U (.cells #[] 5)).cell (p := ⟨kb, 0, none⟩) (lt_of_cell HS0.out.1)).trans HS0.out.1, ((Go.Joins.below_alloc1 U (.cells #[] 5)).cell (p := ⟨kb, 1, none⟩) (lt_of_cell HS0.out.2.1)).trans HS0.out.2.1, ((Go.Joins.below_alloc1 U (.cells #[] 5)).cell (p := ⟨kb, 2, none⟩) (lt_of_cell HS0.out.2.2)).trans HS0.out.2.2⟩ (fun hHeld2 => ?_)
      clear hK K hHeld
      try simp only [Act.put, List.setIfInBounds_toArray, List.set_cons_zero, List.set_cons_succ]
      refine wpAnyH_ready (rs := [2]) (by kernel_rfl) (by simp) ?_
      refine AllReadyH.cons (o := ⟨some 99, _, _, _, _, none⟩) rfl (fun K hK => ?_) AllReadyH.nil
      refine wanted_mp rfl ?_
      refine wp_app _ _ 22 rfl (.slice (some ⟨U.heap.size, 0, none⟩) 0 0) (.slice (some ⟨g7, 0, none⟩) n7 c7) rfl rfl (.slice (some ⟨g', 0, none⟩) n7 c') Wc rc ?_
      refine hK.out _ _ ⟨(HOC.out.2.cell (p := ⟨kb, 0, none⟩) (lt_of_cell HS0.out.1)).trans HS0.out.1, (HOC.out.2.cell (p := ⟨kb, 1, none⟩) (lt_of_cell HS0.out.2.1)).trans HS0.out.2.1, (HOC.out.2.cell (p := ⟨kb, 2, none⟩) (lt_of_cell HS0.out.2.2)).trans HS0.out.2.2⟩ (fun hHeld => ?_)
      have HSU := HS0
      clear hK K hHeld2 rc HS0
      try simp only [Act.put, List.setIfInBounds_toArray, List.set_cons_zero, List.set_cons_succ]
      refine wpAnyH_ready (rs := [9]) (by kernel_rfl) (by simp) ?_
      refine AllReadyH.cons (o := ⟨some 106, _, _, _, _, none⟩) rfl (fun K hK => ?_) AllReadyH.nil
      go_simp
      go_wp2_with (go_at_call 21; refine Calls.mono (EM.out _) ?_; rintro e w6 ⟨gx, rfl, OX, hb⟩)
      obtain ⟨v', W7, r7, ho7, hg7, hat7⟩ := app_all eB_len eB_one (by decide) Try.underlying22 infoB rfl (by decide) U.heap.size (.slice (some ⟨g', 0, none⟩) n7 c') (flatB AK) (entB ⟨mf, ml, mk⟩) gx 0 20 20 (ent_len _).symm (by rw [← HN7.out, ent_len]; omega) w6 (row_below HOC.out.1 hb) (ol_cells (ent_len _).symm OX) (Nat.le_trans HOC.out.2.size hb.size)
      have B7 : Below U.heap.size U W7 := (below_then HOC.out.2 hb).grown hg7 (below_then HOC.out.2 hb).size (fun g e => (row_lt HOC.out.1 g e).1)
      have B67 : Below U.heap.size U w6 := below_then HOC.out.2 hb
      obtain ⟨g9, c9, e9, _, _⟩ := ol_form ho7 (hat7.elim (fun h => ⟨g', by rw [h]; rfl⟩) (fun h => ⟨_, h⟩))
      have LN9 : (flatB AK ++ entB ⟨mf, ml, mk⟩).length = (AK ++ [(⟨mf, ml, mk⟩ : Ar)]).length * 20 := by rw [List.length_append, flatB_len, ent_len, List.length_append]; simp; omega
      have FL9 : flatB AK ++ entB ⟨mf, ml, mk⟩ = flatB (AK ++ [⟨mf, ml, mk⟩]) := by rw [flatB_app, flatB_cons, flatB_nil, List.append_nil]
      rw [FL9] at e9 ho7
      rw [flatB_len] at e9
      obtain ⟨n9, hn9⟩ : ∃ n9, (AK ++ [(⟨mf, ml, mk⟩ : Ar)]).length * 20 = n9 := ⟨_, rfl⟩
      have HN9 : Hid (n9 = (AK ++ [(⟨mf, ml, mk⟩ : Ar)]).length * 20) := hn9.symm
      rw [hn9] at e9
      subst e9
      have H7 : Hid (OL 5 1 eB W7 U.heap.size (.slice (some ⟨g9, 0, none⟩) n9 c9) (flatB (AK ++ [⟨mf, ml, mk⟩])) ∧ Below U.heap.size U W7) := ⟨ho7, B7⟩
      have FC9 : Hid (∀ W : World, OL 5 1 eB W U.heap.size (.slice (some ⟨g9, 0, none⟩) n9 c9) (flatB (AK ++ [⟨mf, ml, mk⟩])) → _) := fun W O => frames_own g9 n9 c9 _ (flatB (AK ++ [⟨mf, ml, mk⟩])) (by rw [flatB_len]; exact HN9.out) (flatB_byt _) a2 0 0 W O
      have HS6 : Hid (w6.cell? ⟨kb, 0, none⟩ = some (.int .u64 mf) ∧ w6.cell? ⟨kb, 1, none⟩ = some (.int .u64 ml) ∧ w6.cell? ⟨kb, 2, none⟩ = some (.int .u32 mk)) := ⟨(hb.cell (p := ⟨kb, 0, none⟩) (lt_of_cell hHeld.1)).trans hHeld.1, (hb.cell (p := ⟨kb, 1, none⟩) (lt_of_cell hHeld.2.1)).trans hHeld.2.1, (hb.cell (p := ⟨kb, 2, none⟩) (lt_of_cell hHeld.2.2)).trans hHeld.2.2⟩
      have HS7 : Hid (W7.cell? ⟨kb, 0, none⟩ = some (.int .u64 mf) ∧ W7.cell? ⟨kb, 1, none⟩ = some (.int .u64 ml) ∧ W7.cell? ⟨kb, 2, none⟩ = some (.int .u32 mk)) := ⟨(B7.cell (p := ⟨kb, 0, none⟩) (lt_of_cell HSU.out.1)).trans HSU.out.1, (B7.cell (p := ⟨kb, 1, none⟩) (lt_of_cell HSU.out.2.1)).trans HSU.out.2.1, (B7.cell (p := ⟨kb, 2, none⟩) (lt_of_cell HSU.out.2.2)).trans HSU.out.2.2⟩
      refine hK.out _ _ HS6.out (fun hHeld2 => ?_)
      clear hK K hHeld hat7 hg7 ho7 B7 B67 LN9 FL9 hn9 OX hb HS6
      have hHeld := hHeld2
      clear hHeld2
      try simp only [Act.put, List.setIfInBounds_toArray, List.set_cons_zero, List.set_cons_succ]
      refine wpAnyH_ready (rs := [10]) (by kernel_rfl) (by simp) ?_
      refine AllReadyH.cons (o := ⟨some 107, _, _, _, _, none⟩) rfl (fun K hK => ?_) AllReadyH.nil
      refine wanted_mp rfl ?_
      refine wp_app _ _ 22 rfl (.slice (some ⟨g', 0, none⟩) n7 c') (.slice (some ⟨gx, 0, none⟩) 20 20) rfl rfl (.slice (some ⟨g9, 0, none⟩) n9 c9) W7 r7 ?_
      refine hK.out _ _ HS7.out (fun hHeld2 => ?_)
      clear hK K hHeld r7
      have hHeld := hHeld2
      clear hHeld2
      try simp only [Act.put, List.setIfInBounds_toArray, List.set_cons_zero, List.set_cons_succ]
      refine wpAnyH_ready (rs := [13]) (by kernel_rfl) (by simp) ?_
      refine AllReadyH.cons (o := ⟨some 110, _, _, _, _, none⟩) rfl (fun K hK => ?_) AllReadyH.nil
      go_simp
      go_wp2_with (go_at_call 18; refine Calls.mono (FC9.out _ H7.out.1) ?_; rintro e w8 ⟨v15, z3, M3, rfl, R15, fz3, m93, hb⟩)
      have END : Hid (FA (AK ++ [⟨mf, ml, mk⟩]) a2 (0, 0) z3 M3 ∧ M3.length ≤ 5000 ∧ RL w8 0 v15 M3 ∧ RL w8 0 v11 M ∧ Below w.heap.size w w8) := ⟨fz_flat (fun x hx => (List.mem_append.1 hx).elim (fun h => HAK.out.1 x h) (fun h => by rw [List.mem_singleton.1 h]; exact HW1.out)) (by rw [List.length_append]; have := HAK.out.2; simp; omega) (by rw [← HN9.out]; exact fz3), m93, R15.low (Nat.zero_le _), (RMU.out.below H7.out.2).below hb, below_then (below_then BWU.out H7.out.2) hb⟩
      refine hK.out _ _ ⟨(hb.cell (p := ⟨kb, 0, none⟩) (lt_of_cell hHeld.1)).trans hHeld.1, (hb.cell (p := ⟨kb, 1, none⟩) (lt_of_cell hHeld.2.1)).trans hHeld.2.1, (hb.cell (p := ⟨kb, 2, none⟩) (lt_of_cell hHeld.2.2)).trans hHeld.2.2⟩ (fun hHeld2 => ?_)
      clear hK K hHeld R15 fz3 m93 hb FC9 H7 HS7 HSU HOC RMU BWU HN9
      have hHeld := hHeld2
      clear hHeld2
      try simp only [Act.put, List.setIfInBounds_toArray, List.set_cons_zero, List.set_cons_succ]
      refine wpAnyH_take (i := 14) (oi := ⟨some 96, _, _, _, _, none⟩) (v := ?_) rfl (by kernel_rfl) (by kernel_rfl) (by kernel_rfl) (fun _ _ _ h => h) (Or.inl ⟨by rfl, ?_⟩) (by assumption) ?_
      rotate_left
      · intro w hSw; (try dsimp only at hSw); go_simp; (try with_reducible rfl)
      try simp only [Act.put, List.setIfInBounds_toArray, List.set_cons_zero, List.set_cons_succ]
      refine wpAnyH_take (i := 15) (oi := ⟨some 111, _, _, _, _, none⟩) (v := ?_) rfl (by kernel_rfl) (by kernel_rfl) (by kernel_rfl) (fun _ _ _ h => h) (Or.inl ⟨by rfl, ?_⟩) (by assumption) ?_
      rotate_left
      · intro w hSw; (try dsimp only at hSw); go_simp; (try with_reducible rfl)
      try simp only [Act.put, List.setIfInBounds_toArray, List.set_cons_zero, List.set_cons_succ]
      refine wpAnyH_take (i := 16) (oi := ⟨some 112, _, _, _, _, none⟩) (v := ?_) rfl (by kernel_rfl) (by kernel_rfl) (by kernel_rfl) (fun _ _ _ h => h) (Or.inl ⟨by rfl, ?_⟩) (by assumption) ?_
      rotate_left
      · intro w hSw; (try dsimp only at hSw); go_simp; (try with_reducible rfl)
      try simp only [Act.put, List.setIfInBounds_toArray, List.set_cons_zero, List.set_cons_succ]
      refine wpAnyH_take (i := 17) (oi := ⟨some 15, _, _, _, _, none⟩) (v := ?_) rfl (by kernel_rfl) (by kernel_rfl) (by kernel_rfl) (fun _ _ _ h => h) (Or.inl ⟨by rfl, ?_⟩) (by assumption) ?_
      rotate_left
      · intro w hSw; (try dsimp only at hSw); go_simp; (try with_reducible rfl)
      try simp only [Act.put, List.setIfInBounds_toArray, List.set_cons_zero, List.set_cons_succ]
      refine wpAnyH_take (i := 18) (oi := ⟨some 16, _, _, _, _, none⟩) (v := ?_) rfl (by kernel_rfl) (by kernel_rfl) (by kernel_rfl) (fun _ _ _ h => h) (Or.inl ⟨by rfl, ?_⟩) (by assumption) ?_
      rotate_left
      · intro w hSw; (try dsimp only at hSw); go_simp; (try with_reducible rfl)
      try simp only [Act.put, List.setIfInBounds_toArray, List.set_cons_zero, List.set_cons_succ]
      clear hHeld
      refine wpAnyH_done (by kernel_rfl) ?_ _
      refine NoPanic.normal ?_
      have MORE : Hid (_) := FA.more HCM.out HFT.out HFA.out.1 END.out.1
      have BDS : Hid (_) := FA.bd (fun x hx => (List.mem_append.1 hx).elim (fun h => HAK.out.1 x h) (fun h => by rw [List.mem_singleton.1 h]; exact HW1.out)) END.out.1
      rcases MORE.out.1 with z0 | ⟨z7, k0⟩
      rotate_left
      · subst z7
        subst k0
        obtain ⟨p15, c15, e15, _, _, _⟩ := END.out.2.2.1.form
        have e15 : v15 = .slice p15 0 c15 := e15
        subst e15
        go_wp2_with fail
        refine Calls.mono (AC.out _) ?_
        rintro e u1 ⟨rfl, hb⟩
        have BWu : Hid (Below w.heap.size w u1) := below_then END.out.2.2.2.2 hb
        clear hb
        go_wp2_with fail
        go_ret
        exact ⟨rfl, BWu.out⟩
      subst z0
      obtain ⟨pm, cm, hvm, _, _, rd⟩ := END.out.2.2.1.form
      have RD : Hid (∀ i (hi : i < M3.length), ∃ g o, pm = some ⟨g, o, none⟩ ∧ 0 ≤ g ∧ g < w8.heap.size ∧ ∀ j, j < 2 → w8.cell? ⟨g, o + i * 2 + j, none⟩ = (eR M3[i])[j]?) := rd
      obtain ⟨m, hm⟩ : ∃ m, M3.length = m := ⟨_, rfl⟩
      have HM3 : Hid (M3.length = m) := hm
      have m95 : m ≤ 5000 := by rw [← hm]; exact END.out.2.1
      have BW8 : Hid (Below w.heap.size w w8 ∧ RL w8 0 v11 M) := ⟨END.out.2.2.2.2, END.out.2.2.2.1⟩
      have INS : Hid (∀ r ∈ M3, Has M r.1 ∧ Has M (r.2 - 1)) := MORE.out.2
      have SMC : Hid (∀ (x : Int) (W : World), Has M x → RL W 0 v11 M → _) := fun x W h q => some_any 0 v11 M x true (by simp [h]) (by have := HFA.out.2; omega) W q
      rw [hm] at hvm
      subst hvm
      clear rd hm END MORE HFA
      go_wp2_with fail
      go_loopw [18, 123] (fun _ i W => ∃ j : Nat, j ≤ m ∧ i = .int .i64 j ∧ Hid (Below w8.heap.size w8 W)) (fun _ i _ => m - (Go.RowKit.intOf i).toNat)
      case atStart => exact ⟨0, by omega, rfl, Below.refl _ _⟩
      case round =>
        obtain ⟨j, hj, rfl, hb⟩ := hrel
        by_cases cj : j < m
        rotate_left
        · obtain rfl : j = m := by omega
          have dj : decide ((j : Int) < (j : Int)) = false := by simp
          have BWn : Hid (Below w.heap.size w wr) := below_then BW8.out.1 hb.out
          go_wp2_with fail
          refine Calls.mono (AC.out _) ?_
          rintro e u1 ⟨rfl, hb⟩
          have BWu : Hid (Below w.heap.size w u1) := below_then BWn.out hb
          clear hb
          go_wp2_with fail
          go_ret
          exact ⟨rfl, BWu.out⟩
        have dj : decide ((j : Int) < (m : Int)) = true := decide_eq_true (by omega)
        have d0 : decide ((j : Int) < 0) = false := by simp
        have jL : j < M3.length := by rw [HM3.out]; exact cj
        obtain ⟨gr, orr, rfl, _, lg, rc⟩ := RD.out j jL
        have y0 : wr.cell? ⟨gr, orr + j * 2, none⟩ = some (.int .i64 M3[j].1) := (World.cell?_of_block (hb.out.block gr lg)).trans (rc 0 (by omega))
        have y1 : wr.cell? ⟨gr, orr + j * 2 + 1, none⟩ = some (.int .i64 M3[j].2) := (World.cell?_of_block (hb.out.block gr lg)).trans (rc 1 (by omega))
        have IN := INS.out M3[j] (List.getElem_mem jL)
        have BD := BDS.out M3[j] (List.getElem_mem jL)
        generalize M3[j].1 = ra at y0 IN BD
        generalize M3[j].2 = rb at y1 IN BD
        have wv : IntKind.i64.wrap (rb - 1) = rb - 1 := by rw [IntKind.wrap_i64]; omega
        have HIN : Hid (Has M ra ∧ Has M (rb - 1)) := IN
        have NB : Hid (Below w8.heap.size w8 (wr.alloc (.cells #[.int .i64 ra, .int .i64 rb] 44)) ∧ RL (wr.alloc (.cells #[.int .i64 ra, .int .i64 rb] 44)) 0 v11 M) := ⟨below_new hb.out _, BW8.out.2.below (below_new hb.out _)⟩
        have BXR : Hid (Blk (wr.alloc (.cells #[.int .i64 ra, .int .i64 rb] 44)) wr.heap.size [.int .i64 ra, .int .i64 rb] 44) := Blk.made wr [.int .i64 ra, .int .i64 rb] 44
        clear rc lg IN BD hb
        go_upto_region 20 with fail
        clear y0 y1
        generalize wr.alloc (.cells #[.int .i64 ra, .int .i64 rb] 44) = wx at NB BXR ⊢
        generalize wr.heap.size = xb at BXR ⊢
        have z0 : wx.cell? ⟨xb, 0, none⟩ = some (.int .i64 ra) := BXR.out.cell 0
        have z1 : wx.cell? ⟨xb, 1, none⟩ = some (.int .i64 rb) := BXR.out.cell 1
        go_wp2_with fail
        refine Calls.mono (SMC.out ra wx HIN.out.1 NB.out.2) ?_
        rintro e wy ⟨rfl, hb⟩
        have NB2 : Hid (Below w8.heap.size w8 wy ∧ RL wy 0 v11 M) := ⟨below_then NB.out.1 hb, NB.out.2.below hb⟩
        have z3' : wy.cell? ⟨xb, 1, none⟩ = some (.int .i64 rb) := (BXR.out.below hb).cell 1
        clear hb z0 z1 NB BXR
        go_wp2_with fail
        refine Calls.mono (SMC.out (rb - 1) wy HIN.out.2 NB2.out.2) ?_
        rintro e wz ⟨rfl, hb⟩
        have NB3 : Hid (Below w8.heap.size w8 wz) := below_then NB2.out.1 hb
        clear hb NB2 z3'
        go_wp2_with fail
        go_roundw
        case rel => exact ⟨j + 1, by omega, by go_num, NB3⟩
        case measure => simp [Go.RowKit.intOf]; omega

theorem own : ownKnob Try.prog.godebug = none := by kernel_rfl
theorem laidOut : laidOutB Try.prog = true := by kernel_rfl
set_option maxRecDepth 100000 in
theorem lifted (os : Os) (started : os.Started) (H : Type) (enc : TypeId × Value → H) :
    ReturnsInHanded {} Try.checked os 7 .any (Rows.bootmapOrderSpec.pre6 enc Try.prog Try.f7 Rows.bootmapOrderRow.domain false) (Rows.bootmapOrderSpec.post enc Try.prog Try.f7 false true false false) := by
  refine returnsInHanded_of_change (C := Try.checked) own started (by kernel_rfl) Try.func7
    (ChangeSpec.witness6 (enc := enc) (C := Try.checked) false ⟨#[], #[.slice none 0 0, .agg #[.int .u64 0, .int .u64 0, .int .u32 0], .int .i64 0], []⟩ 8 (by kernel_rfl) (by kernel_rfl) (by kernel_rfl) (by kernel_rfl)) ?_
  intro W base args ds gs before hval0 hW hcnd _
  have hval : ∀ (j : Nat) t v, Try.f7.params[j]? = some t → args[j]? = some v → Value.okWide Try.prog W .any base t v := hval0
  have hW' := hW
  obtain ⟨p, q, hA0, hV, hbef, hfz, hnd⟩ := hW
  have hA : DataW.TrodAll enc Try.prog W 0 (fun _ => true) true Try.f7.params.toList args.toList ds p := hA0
  have hAk := hA
  have hlt : ∀ x ∈ p, x.block < W.heap.size := fun x hx => hW'.lt x (by rw [hbef]; exact List.mem_append_left _ hx)
  rw [Try.params7] at hA hval
  obtain ⟨v0, vs0, d0, ds0, p0, q0, hargs, rfl, hp0, h0, r0⟩ := trodAll_cons hA
  obtain ⟨v1, vs1, d1, ds1, p1, q1, rfl, rfl, hp1, h1, r1⟩ := trodAll_cons r0
  obtain ⟨v2, vs2, d2, ds2, p2, q2, rfl, rfl, hp2, h2, r2⟩ := trodAll_cons r1
  obtain ⟨rfl, rfl, hpz⟩ := trodAll_nil r2
  obtain rfl : args = #[v0, v1, v2] := by cases args; simp_all
  obtain ⟨rfl, rfl⟩ := trodVars_none hV
  obtain ⟨p0, n0, c0, A0, rfl, m0, H0⟩ := open_areas (hval 0 24 v0 rfl rfl) h0
  obtain ⟨x1, rfl, w1⟩ := open_area (hval 1 36 v1 rfl rfl) h1
  obtain ⟨a2, rfl, _, _, w2⟩ := open_int Try.underlying3 (hval 2 3 v2 rfl rfl) h2
  clear hA0 hval0
  refine (walk p0 n0 c0 A0 m0 x1 w1 a2 w2 W H0).mono fun e W' ⟨he, hg⟩ => ?_
  subst he
  exact ⟨_, rfl, ⟨_, _, _, [], p, [], hW', (trodAll_cons_mk (shut_bool Try.underlying4 _) trodAll_mk0), args_stay laidOut hg (by kernel_rfl) hAk hlt, rfl, hg.frame _, fun h => by cases h⟩⟩

theorem over : Rows.bootmapOrderRow.holds Try.pinned (OpenSpec.ofChange Rows.bootmapOrderSpec) :=
  OpenClaim.holds_of_wide 7 Try.f7 rfl rfl rfl rfl rfl rfl rfl ⟨rfl, rfl, rfl, rfl, rfl⟩ rfl rfl rfl rfl rfl (by kernel_rfl) Try.func7 (by kernel_rfl)
    (of_decide_eq_true (by kernel_rfl)) (by unfold Func.isWrapper; first | (rw [if_pos (by decide +kernel)]; kernel_rfl) | (rw [if_neg (by decide +kernel)]; exact ⟨rfl, rfl⟩))
    (fun os started H enc _ => lifted os started H enc)

theorem proved : Rows.BootmapOrderSaid :=
  over
#print axioms proved
end Go.Proofs.Ytkgjeemecpigpaa.bootmapOrder
