/- A buddy shows what the document's has. -/
import Derived.Test.YtpjejjonkdhelaaCF
namespace Go.Proofs.Ytpjejjonkdhelaa
open Go.ChangeShapes Go.WideShapes Go.ChangeAt Go.RowKit Go.Maps
set_option linter.unusedSimpArgs false
set_option linter.unusedVariables false
set_option maxRecDepth 8000

theorem blocks_len {F : Nat → Prop} {k : Nat} {L : List Int} (hB : Bnd F) (hA : Asc L) (hM : ∀ x, x ∈ L ↔ can F k x) : L.length ≤ 1048576 := by
  have top : ∀ x, x ∈ L → ∃ q : Nat, x = ((q * 2 ^ k : Nat) : Int) ∧ q * 2 ^ k + 2 ^ k ≤ 1048576 := fun x hx => by
    obtain ⟨_, q, e, cq⟩ := (hM x).1 hx
    have p := p2pos k
    have := hB _ (can_last cq)
    refine ⟨q, e, ?_⟩
    generalize 2 ^ k = Q at *
    generalize q * Q = X at *
    omega
  have e1 := cnt_list k 1048576 L (asc_nd hA) top
  have e2 := cnt_le (inL k L) 1048576
  have p := p2pos k
  exact Nat.le_trans (Nat.le_mul_of_pos_right _ p) (by rw [← e1]; exact e2)
theorem lst_nil (w : World) : Lst w (.slice none 0 0) [] := ⟨none, 0, rfl, fun i hi => absurd hi (Nat.not_lt_zero _)⟩
set_option maxHeartbeats 2000000 in
theorem shows_any (Z : Nat → Prop) (b N fb n cf lo en : Nat) (pg : Option Addr) (ll cg : Nat) (L : List (Int × Int)) (hll : ll = L.length) (l9 : ll ≤ 100000) (F All : Nat → Prop) (G : Int → Option Int) (hF : ∀ i, F i → i < n) (hn : n = en * 1024) (n9 : n ≤ 6144) (hN : N ≤ 1048576) (hG : LG L G) (hSt : St All F G) (w : World) (hB : Bu Z w b N F G) (hS : Sn w fb n F) (hL : LB w lo (.slice pg ll cg) L) :
    Calls Try.prog 25 #[.pointer (some ⟨b, 0, none⟩), .agg #[.slice (some ⟨fb, 0, none⟩) n cf, .slice pg ll cg]] w fun e w' => e = .returned (.bool true) ∧ Below w.heap.size w w' := by
  have HLL : Hid (ll = L.length) := hll
  have RD : Hid (∀ i (hi : i < L.length), ∃ g, pg = some ⟨g, 0, none⟩ ∧ lo ≤ g ∧ g < w.heap.size ∧ w.cell? ⟨g, i * 2, none⟩ = some (.int .i64 L[i].1) ∧ w.cell? ⟨g, i * 2 + 1, none⟩ = some (.int .i64 L[i].2)) := by
    obtain ⟨p', c', e, r⟩ := hL
    have e1 := (Value.slice.inj e).1
    subst e1
    exact r
  have B0 : Hid (Below w.heap.size w (w.alloc (.cells #[.slice (some ⟨fb, 0, none⟩) n cf, .slice pg ll cg] 35))) := Go.Joins.below_alloc1 _ _
  have BXB : Hid (Blk (w.alloc (.cells #[.slice (some ⟨fb, 0, none⟩) n cf, .slice pg ll cg] 35)) w.heap.size [.slice (some ⟨fb, 0, none⟩) n cf, .slice pg ll cg] 35) := own1 w _
  have HB1 : Hid (Bu Z (w.alloc (.cells #[.slice (some ⟨fb, 0, none⟩) n cf, .slice pg ll cg] 35)) b N F G) := hB.below B0.out
  have HS1 : Hid (Sn (w.alloc (.cells #[.slice (some ⟨fb, 0, none⟩) n cf, .slice pg ll cg] 35)) fb n F) := hS.block (B0.out.block fb hS.lt)
  have keys : ∀ x, x ∈ L.map Prod.fst ↔ (G x).isSome = true := fun x => by
    rw [List.mem_map]
    constructor
    · rintro ⟨q, hq, rfl⟩
      have := (hG.1 q.1 q.2).1 hq
      rw [this]; rfl
    · intro h
      obtain ⟨v, hv⟩ := Option.isSome_iff_exists.1 h
      exact ⟨(x, v), (hG.1 x v).2 hv, rfl⟩
  have KEYS : Hid (∀ x, x ∈ L.map Prod.fst ↔ (G x).isSome = true) := keys
  have HG : Hid (LG L G) := hG
  have HSt : Hid (St All F G) := hSt
  have HF : Hid (∀ i, F i → i < n) := hF
  have HN : Hid (n = en * 1024) := hn
  have LMX : Hid ((L.map Prod.fst).length ≤ 1048576) := by show _ ≤ _; rw [List.length_map]; omega
  obtain ⟨sx, hsx⟩ : ∃ sx, w.heap.size = sx := ⟨_, rfl⟩
  rw [hsx] at BXB
  clear hll hL hB hS hG hSt hF hn keys
  go_enter Try.func25, Try.ntmps25
  go_upto_region 1 with fail
  generalize w.alloc (.cells #[.slice (some ⟨fb, 0, none⟩) n cf, .slice pg ll cg] 35) = w1 at *
  clear hsx
  have BXK : Hid (∀ W, Below w1.heap.size w1 W → Blk W sx [.slice (some ⟨fb, 0, none⟩) n cf, .slice pg ll cg] 35) := fun W h => BXB.out.below h
  have J0 : Hid (Below w1.heap.size w1 (w1.alloc (.cells #[] 3)) ∧ (w1.alloc (.cells #[] 3)).ownsRow w1.heap.size 3 1 (.slice (some ⟨w1.heap.size, 0, none⟩) 0 0) ((L.take 0).map Prod.fst).length (((L.take 0).map Prod.fst).map (Value.int .i64))) := ⟨Go.Joins.below_alloc1 _ _, row_empty w1 _ (Nat.le_refl _)⟩
  have sc1 : w1.cell? ⟨sx, 1, none⟩ = some (.slice pg ll cg) := BXB.out.cell 1
  have lsx : sx < w1.heap.size := blk_lt BXB.out
  go_wp2_with fail
  clear sc1 lsx
  go_loopw [5, 7, 14] (fun v _ vi W => ∃ i : Nat, i ≤ ll ∧ vi = .int .i64 i ∧ Hid (Below w1.heap.size w1 W ∧ W.ownsRow w1.heap.size 3 1 v ((L.take i).map Prod.fst).length (((L.take i).map Prod.fst).map (Value.int .i64)))) (fun _ _ vi _ => ll - (Go.RowKit.intOf vi).toNat)
  case atStart => exact ⟨0, by omega, rfl, J0⟩
  case round =>
    clear J0
    obtain ⟨i, hi, rfl, hJ⟩ := hrel
    by_cases ci : i < ll
    · have d1 : decide ((i : Int) < (ll : Int)) = true := by simp; omega
      have d0 : decide ((i : Int) < 0) = false := by simp
      have iL : i < L.length := by have := HLL.out; omega
      obtain ⟨gq, epg, lo2, lgq, q1, q2⟩ := RD.out i iL
      subst epg
      have bw : Below w.heap.size w wr := B0.out.trans (hJ.out.1.mono B0.out.size)
      have k1' : wr.cell? ⟨gq, i * 2, none⟩ = some (.int .i64 L[i].1) := by rw [World.cell?_of_block (w := w) (a := ⟨gq, i * 2, none⟩) (bw.block gq lgq)]; exact q1
      have k2' : wr.cell? ⟨gq, i * 2 + 1, none⟩ = some (.int .i64 L[i].2) := by rw [World.cell?_of_block (w := w) (a := ⟨gq, i * 2 + 1, none⟩) (bw.block gq lgq)]; exact q2
      have lg2 : gq < wr.heap.size := Nat.lt_of_lt_of_le lgq bw.size
      have gi := HG.out.one iL
      have tk : L.take (i + 1) = L.take i ++ [L[i]] := by rw [List.take_add_one, List.getElem?_eq_getElem iL]; rfl
      obtain ⟨y, hy⟩ : ∃ y, y = L[i].1 := ⟨_, rfl⟩
      obtain ⟨oo, hoo⟩ : ∃ oo, oo = L[i].2 := ⟨_, rfl⟩
      rw [← hy, ← hoo] at gi
      rw [← hy] at k1'
      rw [← hoo] at k2'
      have ba : Below wr.heap.size wr (wr.alloc (.cells #[.int .i64 y, .int .i64 oo] 75)) := Go.Joins.below_alloc1 _ _
      have zX : (wr.alloc (.cells #[.int .i64 y, .int .i64 oo] 75)).heap.size = wr.heap.size + 1 := by rw [World.size_alloc]
      have rl := row_lt hJ.out.2
      have OX := row_keep (w' := wr.alloc (.cells #[.int .i64 y, .int .i64 oo] 75)) hJ.out.2 (fun g e => ba.block g (rl g e).2)
      obtain ⟨v', W2, r2, ho, hg, hat⟩ := app_row w1.heap.size u5 ((L.take i).map Prod.fst) y (by rw [List.length_map, List.length_take]; omega) (wr.alloc (.cells #[.int .i64 y, .int .i64 oo] 75)) OX (Nat.le_trans hJ.out.1.size ba.size) (fun g e => (row_lt OX g e).2)
      have BY : Blk W2 wr.heap.size [.int .i64 y, .int .i64 oo] 75 := by
        have h : Blk (wr.alloc (.cells #[.int .i64 y, .int .i64 oo] 75)) wr.heap.size [.int .i64 y, .int .i64 oo] 75 := own1 wr _
        have h2 : Blk ((wr.alloc (.cells #[.int .i64 y, .int .i64 oo] 75)).alloc (.cells #[.int .i64 y] 3)) wr.heap.size [.int .i64 y, .int .i64 oo] 75 := h.below (Go.Joins.below_alloc1 _ _)
        refine (hg.block wr.heap.size (blk_lt h2) (fun e => ?_)).trans h2
        have := (rl _ e.symm).2
        omega
      have J2 : Hid (Below w1.heap.size w1 W2 ∧ W2.ownsRow w1.heap.size 3 1 v' ((L.take (i + 1)).map Prod.fst).length (((L.take (i + 1)).map Prod.fst).map (Value.int .i64))) := by
        refine ⟨?_, ?_⟩
        · have b2 : Below w1.heap.size w1 ((wr.alloc (.cells #[.int .i64 y, .int .i64 oo] 75)).alloc (.cells #[.int .i64 y] 3)) := (hJ.out.1.alloc hJ.out.1.size _).alloc (Nat.le_trans hJ.out.1.size ba.size) _
          exact b2.trans ⟨hg.os, hg.tape, hg.output, hg.size, fun x hx => hg.block x (Nat.lt_of_lt_of_le hx b2.size) (fun e => by have := (rl x e.symm).1; omega)⟩
        · rw [tk, List.map_append]
          show W2.ownsRow _ _ _ _ (((L.take i).map Prod.fst) ++ [L[i].1]).length ((((L.take i).map Prod.fst) ++ [L[i].1]).map (Value.int .i64))
          rw [← hy]; exact ho
      rw [zX] at r2
      have ORC : Hid (∀ W, Below w1.heap.size w1 W → Calls Try.prog 23 #[.pointer (some ⟨b, 0, none⟩), .int .i64 y] W fun e w' => e = .returned (.int .i64 oo) ∧ w' = W) := fun W h => by
        have bx := HSt.out.wf (x := y) (by rw [gi]; rfl)
        have r := (HB1.out.below h).order (x := y) (wf64 (by omega) (by omega))
        rw [gi] at r
        exact r
      have B3 : Hid (Below w1.heap.size w1 W2) := J2.out.1
      have ly : wr.heap.size < W2.heap.size := blk_lt BY
      have yc0 : W2.cell? ⟨wr.heap.size, 0, none⟩ = some (.int .i64 y) := BY.cell 0
      have yc1 : W2.cell? ⟨wr.heap.size, 1, none⟩ = some (.int .i64 oo) := BY.cell 1
      clear hJ q1 q2 bw gi tk hy hoo ba zX rl OX ho hg hat BY iL
      go_upto_region 6 with (at_builtin; refine wpList_app rfl _ _ 44 rfl u5 (.slice (some ⟨wr.heap.size + 1, 0, none⟩) 1 1) rfl rfl v' W2 r2 ?_)
      clear r2 k1' k2' lg2
      generalize wr.heap.size = bx at *
      generalize W2 = X at *
      refine wp_region_noPanic ?_
      refine wp_region_held_drew (S := fun c => c.cell? ⟨bx, 0, none⟩ = some (.int .i64 y) ∧ c.cell? ⟨bx, 1, none⟩ = some (.int .i64 oo)) (by kernel_rfl) ?_ (fun hHeld => ?_)
      · exact ⟨yc0, yc1⟩
      have OU : Hid (Calls Try.prog 23 #[.pointer (some ⟨b, 0, none⟩), .int .i64 y] X.drew fun e w' => e = .returned (.int .i64 oo) ∧ w' = X.drew) := ORC.out X.drew (B3.out.trans ((below_drew (Below.refl _ _)).mono B3.out.size))
      have yu0 : X.drew.cell? ⟨bx, 0, none⟩ = some (.int .i64 y) := yc0
      have yu1 : X.drew.cell? ⟨bx, 1, none⟩ = some (.int .i64 oo) := yc1
      have KU : Hid (Below X.heap.size X X.drew) := below_drew (Below.refl _ _)
      generalize X.drew = U at OU hHeld yu0 yu1 KU ⊢
      refine wpAnyH_take (i := 0) (oi := ⟨some 23, _, _, _, _, none⟩) (v := ?_) rfl (by kernel_rfl) (by kernel_rfl) (by kernel_rfl) (fun _ _ _ h => h) (Or.inl ⟨by rfl, ?_⟩) (by assumption) ?_
      rotate_left
      · intro w hSw; (try dsimp only at hSw); go_simp; (try with_reducible rfl)
      try simp only [Act.put, List.setIfInBounds_toArray, List.set_cons_zero, List.set_cons_succ]
      refine wpAnyH_take (i := 1) (oi := ⟨some 24, _, _, _, _, none⟩) (v := (.pointer (some ⟨bx, 0, none⟩))) rfl (by kernel_rfl) (by kernel_rfl) (by kernel_rfl) (fun _ _ _ h => h) (Or.inl ⟨by rfl, ?_⟩) (by assumption) ?_
      · intro w hSw; (try dsimp only at hSw); go_simp; (try simp); (try (simp only [IntKind.wrap_i64]; omega))
      try simp only [Act.put, List.setIfInBounds_toArray, List.set_cons_zero, List.set_cons_succ]
      refine wpAnyH_take (i := 2) (oi := ⟨some 25, _, _, _, _, none⟩) (v := (.int .i64 y)) rfl (by kernel_rfl) (by kernel_rfl) (by kernel_rfl) (fun _ _ _ h => h) (Or.inl ⟨by rfl, ?_⟩) (by assumption) ?_
      · intro w hSw; (try dsimp only at hSw); have q0 : w.cell? ⟨bx, 0, none⟩ = some (.int .i64 y) := hSw.1; go_simp; (try simp)
      try simp only [Act.put, List.setIfInBounds_toArray, List.set_cons_zero, List.set_cons_succ]
      refine wpAnyH_take (i := 4) (oi := ⟨some 27, _, _, _, _, none⟩) (v := (.pointer (some ⟨bx, 1, none⟩))) rfl (by kernel_rfl) (by kernel_rfl) (by kernel_rfl) (fun _ _ _ h => h) (Or.inl ⟨by rfl, ?_⟩) (by assumption) ?_
      · intro w hSw; (try dsimp only at hSw); go_simp; (try simp); (try (simp only [IntKind.wrap_i64]; omega))
      try simp only [Act.put, List.setIfInBounds_toArray, List.set_cons_zero, List.set_cons_succ]
      refine wpAnyH_take (i := 5) (oi := ⟨some 28, _, _, _, _, none⟩) (v := (.int .i64 oo)) rfl (by kernel_rfl) (by kernel_rfl) (by kernel_rfl) (fun _ _ _ h => h) (Or.inl ⟨by rfl, ?_⟩) (by assumption) ?_
      · intro w hSw; (try dsimp only at hSw); have q0 : w.cell? ⟨bx, 1, none⟩ = some (.int .i64 oo) := hSw.2; go_simp; (try simp)
      try simp only [Act.put, List.setIfInBounds_toArray, List.set_cons_zero, List.set_cons_succ]
      refine wpAnyH_ready (rs := [3]) (by kernel_rfl) (by simp) ?_
      refine AllReadyH.cons (o := ⟨some 26, _, _, _, _, none⟩) rfl (fun K hK => ?_) AllReadyH.nil
      go_simp
      go_wp2_with (go_at_call 23; refine Calls.mono (OU.out) ?_; rintro e v3 ⟨rfl, rfl⟩)
      clear hHeld OU
      refine hK.out _ _ ⟨yu0, yu1⟩ (fun hHeld => ?_)
      clear hK K
      try simp only [Act.put, List.setIfInBounds_toArray, List.set_cons_zero, List.set_cons_succ]
      refine wpAnyH_take (i := 6) (oi := ⟨some 29, _, _, _, _, none⟩) (v := .bool false) rfl (by kernel_rfl) (by kernel_rfl) (by kernel_rfl) (fun _ _ _ h => h) (Or.inl ⟨by rfl, ?_⟩) (by assumption) ?_
      · intro w hSw; (try dsimp only at hSw); go_simp; (try simp); (try (simp only [IntKind.wrap_i64]; omega))
      try simp only [Act.put, List.setIfInBounds_toArray, List.set_cons_zero, List.set_cons_succ]
      clear hHeld
      refine wpAnyH_done (by kernel_rfl) ?_ _
      refine NoPanic.normal ?_
      have J3 : Hid (Below w1.heap.size w1 v3 ∧ v3.ownsRow w1.heap.size 3 1 v' ((L.take (i + 1)).map Prod.fst).length (((L.take (i + 1)).map Prod.fst).map (Value.int .i64))) := ⟨J2.out.1.trans (KU.out.mono J2.out.1.size), row_keep J2.out.2 (fun g e => KU.out.block g (row_lt J2.out.2 g e).2)⟩
      clear J2
      go_wp2_with fail
      go_roundw
      case rel => exact ⟨i + 1, by omega, by go_num, J3⟩
      case measure => simp [Go.RowKit.intOf]; omega
    obtain rfl : i = ll := by omega
    have d1 : decide ((i : Int) < (i : Int)) = false := by simp
    have LE0 : Hid (Below w1.heap.size w1 wr ∧ Lst wr u5 (L.map Prod.fst)) := by
      refine ⟨hJ.out.1, ?_⟩
      have h := lst_row hJ.out.2
      rw [HLL.out, List.take_length] at h
      exact h
    have GVC : Hid (∀ W, Below w1.heap.size w1 W → Calls Try.prog 18 #[.pointer (some ⟨b, 0, none⟩)] W fun e w' => ∃ v, e = .returned v ∧ Lst w' v (L.map Prod.fst) ∧ Below W.heap.size W w') := fun W h => by
      refine ((HB1.out.below h).given (by omega)).mono ?_
      rintro e w' ⟨v, L', he, hA, hM, hO, hb⟩
      have e1 : L' = L.map Prod.fst := asc_eq hA HG.out.2 (fun x => (hM x).trans (KEYS.out x).symm)
      subst e1
      exact ⟨v, he, lst_row hO, hb⟩
    have FRC : Hid (∀ W, Below w1.heap.size w1 W → Calls Try.prog 21 #[.pointer (some ⟨b, 0, none⟩)] W fun e w' => e = .returned (.int .i64 (cnt F 1048576 : Nat)) ∧ w' = W) := fun W h => (HB1.out.below h).free
    have CTC : Hid (∀ W, Below w1.heap.size w1 W → Calls Try.prog 22 #[.agg #[.slice (some ⟨fb, 0, none⟩) n cf, .slice pg i cg]] W fun e w' => e = .returned (.int .i64 (cnt F 1048576 : Nat)) ∧ Below W.heap.size W w') := fun W h => rcnt_any fb n cf (.slice pg i cg) F HF.out (by omega) W (HS1.out.block (h.block fb HS1.out.lt))
    have RBC : Hid (∀ (W : World) (k : Nat), k ≤ 10 → Below w1.heap.size w1 W → Calls Try.prog 36 #[.agg #[.slice (some ⟨fb, 0, none⟩) n cf, .slice pg i cg], .int .i64 k] W fun e w' => ∃ (v : Value) (L' : List Int), e = .returned v ∧ Lst w' v L' ∧ L'.length ≤ 1048576 ∧ Asc L' ∧ (∀ x, x ∈ L' ↔ can F k x) ∧ Below W.heap.size W w') := fun W k hk h => by
      refine (rblocks_any fb n cf (.slice pg i cg) k en hk F HF.out HN.out n9 W (HS1.out.block (h.block fb HS1.out.lt))).mono ?_
      rintro e w' ⟨v, L', he, hA, hM, hO, hb⟩
      exact ⟨v, L', he, lst_row hO, blocks_len HB1.out.1 hA hM, hA, hM, hb⟩
    have BKC : Hid (∀ (W : World) (k : Nat) (L' : List Int), k ≤ 10 → Below w1.heap.size w1 W → Asc L' → (∀ x, x ∈ L' ↔ can F k x) → Calls Try.prog 27 #[.pointer (some ⟨b, 0, none⟩), .int .i64 k] W fun e w' => ∃ v, e = .returned v ∧ Lst w' v L' ∧ Below W.heap.size W w') := fun W k L' hk h aL mL => by
      refine ((HB1.out.below h).blocks (by omega) k (by omega)).mono ?_
      rintro e w' ⟨v, L2, he, hA, hM, hO, hb⟩
      have e1 : L2 = L' := asc_eq hA aL (fun x => (hM x).trans (mL x).symm)
      subst e1
      exact ⟨v, he, lst_row hO, hb⟩
    generalize cnt F 1048576 = al at *
    clear hJ ci
    generalize u5 = vg at *
    go_wp2_with fail
    go_loopw [8, 9] (fun v8 _ W => ∃ j : Nat, j ≤ 13 ∧ v8 = .int .i64 ((j : Int) - 1) ∧ Hid (Below w1.heap.size w1 W ∧ Lst W vg (L.map Prod.fst))) (fun v8 _ _ => (12 - Go.RowKit.intOf v8).toNat)
    case atStart => exact ⟨0, by omega, rfl, LE0⟩
    case round =>
      clear LE0
      obtain ⟨j, hj, rfl, hJ⟩ := hrel
      by_cases j0 : j = 0
      · subst j0
        rw [show (((0 : Nat) : Int) - 1) = (-1 : Int) from rfl]
        have L0 : Hid (Lst (wr.alloc (.cells #[] 3)) (.slice (some ⟨wr.heap.size, 0, none⟩) 0 0) []) := ⟨_, _, rfl, fun i hi => absurd hi (Nat.not_lt_zero _)⟩
        have BA : Hid (Below wr.heap.size wr (wr.alloc (.cells #[] 3))) := Go.Joins.below_alloc1 _ _
        have BN : Hid (Calls Try.prog 27 #[.pointer (some ⟨b, 0, none⟩), .int .i64 (-1)] (wr.alloc (.cells #[] 3)) fun e w' => e = .returned (.slice none 0 0) ∧ w' = wr.alloc (.cells #[] 3)) := Bt.blocks_no b (-1) (by omega)
        have SE : Hid (Calls Try.prog 26 #[.slice none 0 0, .slice (some ⟨wr.heap.size, 0, none⟩) 0 0] (wr.alloc (.cells #[] 3)) fun e w' => e = .returned (.bool true) ∧ Below (wr.alloc (.cells #[] 3)).heap.size (wr.alloc (.cells #[] 3)) w') := same_yes _ _ [] (by simp) _ (lst_nil _) L0.out
        clear L0
        go_wp2_with fail
        refine Calls.mono BN.out ?_
        rintro e u1 ⟨rfl, rfl⟩
        go_wp2_with fail
        refine Calls.mono SE.out ?_
        rintro e u2 ⟨rfl, hb⟩
        have hb2 := below_then BA.out hb
        have J3 : Hid (Below w1.heap.size w1 u2 ∧ Lst u2 vg (L.map Prod.fst)) := ⟨hJ.out.1.trans (hb2.mono hJ.out.1.size), hJ.out.2.below hb2⟩
        clear hb hb2 hJ BN SE BA
        go_wp2_with fail
        go_roundw
        case rel => exact ⟨1, by omega, by go_num, J3⟩
        case measure => simp [Go.RowKit.intOf]
      obtain ⟨k, rfl⟩ : ∃ k, j = k + 1 := ⟨j - 1, by omega⟩
      rw [show (((k + 1 : Nat) : Int) - 1) = (k : Int) by omega]
      by_cases k12 : k = 12
      · subst k12
        rw [show ((12 : Nat) : Int) = (12 : Int) from rfl]
        have BE : Hid (Below w1.heap.size w1 wr) := hJ.out.1
        have LE : Hid (Lst wr vg (L.map Prod.fst)) := hJ.out.2
        clear hJ j0
        go_upto_region 17 with fail
        refine wp_region_noPanic ?_
        refine wp_region_held_drew (S := fun c => c.cell? ⟨sx, 0, none⟩ = some (.slice (some ⟨fb, 0, none⟩) n cf) ∧ c.cell? ⟨sx, 1, none⟩ = some (.slice pg i cg)) (by kernel_rfl) ?_ (fun hHeld => ?_)
        · exact ⟨(BXK.out _ BE.out).cell 0, (BXK.out _ BE.out).cell 1⟩
        have BU1 : Hid (Below w1.heap.size w1 wr.drew) := BE.out.trans ((below_drew (Below.refl _ _)).mono BE.out.size)
        have LU1 : Hid (Lst wr.drew vg (L.map Prod.fst)) := LE.out.below (below_drew (Below.refl _ _))
        clear BE LE
        generalize wr.drew = U at BU1 LU1 hHeld ⊢
        refine wpAnyH_take (i := 0) (oi := ⟨some 51, _, _, _, _, none⟩) (v := ?_) rfl (by kernel_rfl) (by kernel_rfl) (by kernel_rfl) (fun _ _ _ h => h) (Or.inl ⟨by rfl, ?_⟩) (by assumption) ?_
        rotate_left
        · intro w hSw; (try dsimp only at hSw); go_simp; (try with_reducible rfl)
        try simp only [Act.put, List.setIfInBounds_toArray, List.set_cons_zero, List.set_cons_succ]
        refine wpAnyH_take (i := 2) (oi := ⟨some 53, _, _, _, _, none⟩) (v := ?_) rfl (by kernel_rfl) (by kernel_rfl) (by kernel_rfl) (fun _ _ _ h => h) (Or.inl ⟨by rfl, ?_⟩) (by assumption) ?_
        rotate_left
        · intro w hSw; (try dsimp only at hSw); go_simp; (try with_reducible rfl)
        try simp only [Act.put, List.setIfInBounds_toArray, List.set_cons_zero, List.set_cons_succ]
        refine wpAnyH_ready (rs := [1]) (by kernel_rfl) (by simp) ?_
        refine AllReadyH.cons (o := ⟨some 52, _, _, _, _, none⟩) rfl (fun K hK => ?_) AllReadyH.nil
        go_simp
        go_wp2_with (go_at_call 18; refine Calls.mono (GVC.out U BU1.out) ?_; rintro e v1 ⟨vq, rfl, hLq, hb⟩)
        have BU2 : Hid (Below w1.heap.size w1 v1) := BU1.out.trans (hb.mono BU1.out.size)
        have SQ : Hid (Lst v1 vq (L.map Prod.fst) ∧ Lst v1 vg (L.map Prod.fst)) := ⟨hLq, LU1.out.below hb⟩
        clear hb hLq hHeld BU1 LU1
        refine hK.out _ _ ⟨(BXK.out _ BU2.out).cell 0, (BXK.out _ BU2.out).cell 1⟩ (fun hHeld => ?_)
        clear hK K
        try simp only [Act.put, List.setIfInBounds_toArray, List.set_cons_zero, List.set_cons_succ]
        refine wpAnyH_ready (rs := [3]) (by kernel_rfl) (by simp) ?_
        refine AllReadyH.cons (o := ⟨some 54, _, _, _, _, none⟩) rfl (fun K hK => ?_) AllReadyH.nil
        go_simp
        go_wp2_with (go_at_call 26; refine Calls.mono (same_yes vq vg (L.map Prod.fst) LMX.out v1 SQ.out.1 SQ.out.2) ?_; rintro e v2 ⟨rfl, hb⟩)
        have BU3 : Hid (Below w1.heap.size w1 v2) := BU2.out.trans (hb.mono BU2.out.size)
        clear hb hHeld BU2 SQ
        refine hK.out _ _ ⟨(BXK.out _ BU3.out).cell 0, (BXK.out _ BU3.out).cell 1⟩ (fun hHeld => ?_)
        clear hK K
        try simp only [Act.put, List.setIfInBounds_toArray, List.set_cons_zero, List.set_cons_succ]
        refine wpAnyH_take (i := 4) (oi := ⟨some 55, _, _, _, _, none⟩) (v := ?_) rfl (by kernel_rfl) (by kernel_rfl) (by kernel_rfl) (fun _ _ _ h => h) (Or.inl ⟨by rfl, ?_⟩) (by assumption) ?_
        rotate_left
        · intro w hSw; (try dsimp only at hSw); go_simp; (try with_reducible rfl)
        try simp only [Act.put, List.setIfInBounds_toArray, List.set_cons_zero, List.set_cons_succ]
        refine wpAnyH_take (i := 5) (oi := ⟨some 56, _, _, _, _, some (4, true)⟩) (v := ?_) rfl (by kernel_rfl) (by kernel_rfl) (by kernel_rfl) (fun _ _ _ h => h) (Or.inl ⟨by rfl, ?_⟩) (by assumption) ?_
        rotate_left
        · intro w hSw; (try dsimp only at hSw); go_simp; (try with_reducible rfl)
        try simp only [Act.put, List.setIfInBounds_toArray, List.set_cons_zero, List.set_cons_succ]
        refine wpAnyH_take (i := 7) (oi := ⟨some 58, _, _, _, _, some (4, true)⟩) (v := (.agg #[.slice (some ⟨fb, 0, none⟩) n cf, .slice pg i cg])) rfl (by kernel_rfl) (by kernel_rfl) (by kernel_rfl) (fun _ _ _ h => h) (Or.inl ⟨by rfl, ?_⟩) (by assumption) ?_
        · intro w hSw; (try dsimp only at hSw); have q0 : w.cell? ⟨sx, 0, none⟩ = some (.slice (some ⟨fb, 0, none⟩) n cf) := hSw.1; have q1 : w.cell? ⟨sx, 1, none⟩ = some (.slice pg i cg) := hSw.2; go_simp; (try simp)
        try simp only [Act.put, List.setIfInBounds_toArray, List.set_cons_zero, List.set_cons_succ]
        refine wpAnyH_ready (rs := [6]) (by kernel_rfl) (by simp) ?_
        refine AllReadyH.cons (o := ⟨some 57, _, _, _, _, some (4, true)⟩) rfl (fun K hK => ?_) AllReadyH.nil
        go_simp
        go_wp2_with (go_at_call 21; refine Calls.mono (FRC.out v2 BU3.out) ?_; rintro e v4 ⟨rfl, rfl⟩)
        clear hHeld
        refine hK.out _ _ ⟨(BXK.out _ BU3.out).cell 0, (BXK.out _ BU3.out).cell 1⟩ (fun hHeld => ?_)
        clear hK K
        try simp only [Act.put, List.setIfInBounds_toArray, List.set_cons_zero, List.set_cons_succ]
        refine wpAnyH_ready (rs := [8]) (by kernel_rfl) (by simp) ?_
        refine AllReadyH.cons (o := ⟨some 59, _, _, _, _, some (4, true)⟩) rfl (fun K hK => ?_) AllReadyH.nil
        go_simp
        go_wp2_with (go_at_call 22; refine Calls.mono (CTC.out v4 BU3.out) ?_; rintro e v5 ⟨rfl, hb⟩)
        have BU4 : Hid (Below w1.heap.size w1 v5) := BU3.out.trans (hb.mono BU3.out.size)
        clear hb hHeld BU3
        refine hK.out _ _ ⟨(BXK.out _ BU4.out).cell 0, (BXK.out _ BU4.out).cell 1⟩ (fun hHeld => ?_)
        clear hK K
        try simp only [Act.put, List.setIfInBounds_toArray, List.set_cons_zero, List.set_cons_succ]
        refine wpAnyH_take (i := 9) (oi := ⟨some 60, _, _, _, _, some (4, true)⟩) (v := .bool true) rfl (by kernel_rfl) (by kernel_rfl) (by kernel_rfl) (fun _ _ _ h => h) (Or.inl ⟨by rfl, ?_⟩) (by assumption) ?_
        · intro w hSw; (try dsimp only at hSw); go_simp; (try simp); (try (simp only [IntKind.wrap_i64]; omega))
        try simp only [Act.put, List.setIfInBounds_toArray, List.set_cons_zero, List.set_cons_succ]
        refine wpAnyH_take (i := 10) (oi := ⟨some 61, _, _, _, _, none⟩) (v := ?_) rfl (by kernel_rfl) (by kernel_rfl) (by kernel_rfl) (fun _ _ _ h => h) (Or.inl ⟨by rfl, ?_⟩) (by assumption) ?_
        rotate_left
        · intro w hSw; (try dsimp only at hSw); go_simp; (try with_reducible rfl)
        try simp only [Act.put, List.setIfInBounds_toArray, List.set_cons_zero, List.set_cons_succ]
        refine wpAnyH_take (i := 11) (oi := ⟨some 4, _, _, _, _, none⟩) (v := ?_) rfl (by kernel_rfl) (by kernel_rfl) (by kernel_rfl) (fun _ _ _ h => h) (Or.inl ⟨by rfl, ?_⟩) (by assumption) ?_
        rotate_left
        · intro w hSw; (try dsimp only at hSw); go_simp; (try with_reducible rfl)
        try simp only [Act.put, List.setIfInBounds_toArray, List.set_cons_zero, List.set_cons_succ]
        clear hHeld
        refine wpAnyH_done (by kernel_rfl) ?_ _
        refine NoPanic.normal ?_
        go_wp2_with fail
        go_ret
        exact ⟨rfl, B0.out.trans (BU4.out.mono B0.out.size)⟩

      by_cases k11 : k = 11
      · subst k11
        rw [show ((11 : Nat) : Int) = (11 : Int) from rfl]
        have L0 : Hid (Lst (wr.alloc (.cells #[] 3)) (.slice (some ⟨wr.heap.size, 0, none⟩) 0 0) []) := ⟨_, _, rfl, fun i hi => absurd hi (Nat.not_lt_zero _)⟩
        have BA : Hid (Below wr.heap.size wr (wr.alloc (.cells #[] 3))) := Go.Joins.below_alloc1 _ _
        have BN : Hid (Calls Try.prog 27 #[.pointer (some ⟨b, 0, none⟩), .int .i64 (11)] (wr.alloc (.cells #[] 3)) fun e w' => e = .returned (.slice none 0 0) ∧ w' = wr.alloc (.cells #[] 3)) := Bt.blocks_no b (11) (by omega)
        have SE : Hid (Calls Try.prog 26 #[.slice none 0 0, .slice (some ⟨wr.heap.size, 0, none⟩) 0 0] (wr.alloc (.cells #[] 3)) fun e w' => e = .returned (.bool true) ∧ Below (wr.alloc (.cells #[] 3)).heap.size (wr.alloc (.cells #[] 3)) w') := same_yes _ _ [] (by simp) _ (lst_nil _) L0.out
        clear L0
        go_wp2_with fail
        refine Calls.mono BN.out ?_
        rintro e u1 ⟨rfl, rfl⟩
        go_wp2_with fail
        refine Calls.mono SE.out ?_
        rintro e u2 ⟨rfl, hb⟩
        have hb2 := below_then BA.out hb
        have J3 : Hid (Below w1.heap.size w1 u2 ∧ Lst u2 vg (L.map Prod.fst)) := ⟨hJ.out.1.trans (hb2.mono hJ.out.1.size), hJ.out.2.below hb2⟩
        clear hb hb2 hJ BN SE BA
        go_wp2_with fail
        go_roundw
        case rel => exact ⟨13, by omega, by go_num, J3⟩
        case measure => simp [Go.RowKit.intOf]
      have k10 : k ≤ 10 := by omega
      have e1 : decide ((k : Int) ≤ 11) = true := by simp; omega
      have e2 : decide ((0 : Int) ≤ (k : Int)) = true := by simp
      have e3 : decide ((k : Int) ≤ 10) = true := by simp; omega
      have BA : Hid (Below wr.heap.size wr (wr.alloc (.cells #[] 3))) := Go.Joins.below_alloc1 _ _
      have R1 : Hid _ := RBC.out (wr.alloc (.cells #[] 3)) k k10 (hJ.out.1.trans (BA.out.mono hJ.out.1.size))
      have bsX := BXK.out _ (hJ.out.1.trans (BA.out.mono hJ.out.1.size))
      have sc0 : (wr.alloc (.cells #[] 3)).cell? ⟨sx, 0, none⟩ = some (.slice (some ⟨fb, 0, none⟩) n cf) := bsX.cell 0
      have sc1 : (wr.alloc (.cells #[] 3)).cell? ⟨sx, 1, none⟩ = some (.slice pg i cg) := bsX.cell 1
      have lsX : sx < (wr.alloc (.cells #[] 3)).heap.size := blk_lt bsX
      clear bsX
      go_upto_region 14 with fail
      generalize wr.alloc (.cells #[] 3) = X at *
      go_wp2_with fail
      refine Calls.mono R1.out ?_
      rintro e u1 ⟨v1, L1, rfl, hL1, l91, aL, mL, hb⟩
      have hb1 := BA.out.trans (hb.mono BA.out.size)
      have BU : Hid (Below wr.heap.size wr u1) := hb1
      have K1 : Hid _ := BKC.out u1 k L1 k10 (hJ.out.1.trans (hb1.mono hJ.out.1.size)) aL mL
      have HL1 : Hid (Lst u1 v1 L1 ∧ L1.length ≤ 1048576) := ⟨hL1, l91⟩
      clear hb hb1 R1 hL1 l91 aL mL sc0 sc1 lsX
      go_wp2_with fail
      refine Calls.mono K1.out ?_
      rintro e u2 ⟨v2, rfl, hL2, hb⟩
      have BU2 : Hid (Below wr.heap.size wr u2) := BU.out.trans (hb.mono BU.out.size)
      have S1 : Hid _ := same_yes v2 v1 L1 HL1.out.2 u2 hL2 (HL1.out.1.below hb)
      clear hb hL2 K1 HL1 BU
      go_wp2_with fail
      refine Calls.mono S1.out ?_
      rintro e u3 ⟨rfl, hb⟩
      have hb2 := BU2.out.trans (hb.mono BU2.out.size)
      have J3 : Hid (Below w1.heap.size w1 u3 ∧ Lst u3 vg (L.map Prod.fst)) := ⟨hJ.out.1.trans (hb2.mono hJ.out.1.size), hJ.out.2.below hb2⟩
      clear hb hb2 S1 BU2 BA hJ
      go_wp2_with fail
      go_roundw
      case rel => exact ⟨k + 2, by omega, by go_num, J3⟩
      case measure => simp [Go.RowKit.intOf]; omega
end Go.Proofs.Ytpjejjonkdhelaa
