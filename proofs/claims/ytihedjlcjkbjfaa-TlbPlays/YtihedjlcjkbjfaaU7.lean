/- The lines: the document's Without. -/
import Derived.Test.YtihedjlcjkbjfaaU6
import Derived.Deep.DeepCutAuto
namespace Go.Proofs.Ytihedjlcjkbjfaa
open Go.ChangeShapes Go.WideShapes Go.ChangeAt Go.RowKit Go.Maps
set_option linter.unusedSimpArgs false
set_option linter.unusedVariables false

theorem takeL (L : List Rl) (m : Nat) (h : m < L.length) : L.take (m + 1) = L.take m ++ [L.getD m Rl.zero] := by
  rw [List.take_add_one, List.getElem?_eq_getElem h]; simp [List.getD, List.getElem?_eq_getElem h]
theorem without_next (L : List Rl) (k a b : Int) (m : Nat) (h : m < L.length) : withoutR (L.take (m + 1)) k a b = if goneW k a b (L.getD m Rl.zero) = true then withoutR (L.take m) k a b else withoutR (L.take m) k a b ++ [L.getD m Rl.zero] := by
  unfold withoutR
  rw [takeL L m h, List.filter_append, List.filter_cons]
  cases goneW k a b (L.getD m Rl.zero) <;> simp
theorem without_len (L : List Rl) (k a b : Int) (m : Nat) : (withoutR (L.take m) k a b).length ≤ m := by
  unfold withoutR
  exact Nat.le_trans (List.length_filter_le _ _) (by rw [List.length_take]; omega)
theorem news_cells1 (u : World) (C : Array Value) (t : TypeId) : ∀ j x, C.toList[j]? = some x → (u.alloc (.cells C t)).cell? ((⟨u.heap.size, 0, none⟩ : Addr).add j) = some x := by
  intro j x hx
  rw [Addr.add_mid, Nat.zero_add]
  exact (Go.Joins.cell_of_block (own1 u (.cells C t)) j).trans (by simpa using hx)
set_option maxRecDepth 8000 in
set_option maxHeartbeats 4000000 in
theorem without_any (base : Nat) (p : Option Addr) (c : Nat) (L : List Rl) (hL : L.length ≤ 100) (kk a b : Int) (hk4 : kk = 1 ∨ kk = 2 ∨ kk = 3 ∨ kk = 4) (w : World) (h : IsRl w base p L) :
    Calls Try.prog 36 #[.slice p L.length c, .int .i64 kk, .int .i64 a, .int .i64 b] w fun e w' => ∃ p' c', e = .returned (.slice p' (withoutR L kk a b).length c') ∧ IsRl w' w.heap.size p' (withoutR L kk a b) ∧ Below w.heap.size w w' := by
  obtain ⟨i0, hi, hz0, hz1, hz2⟩ := info5 ref_info5
  have HI : Hid (IsRl w base p L) := h
  have RES : Hid (withoutR (L.take L.length) kk a b = withoutR L kk a b) := by show _ = _; rw [List.take_length]
  generalize withoutR L kk a b = RR at RES ⊢
  clear h
  obtain ⟨n, hn⟩ : ∃ n, L.length = n := ⟨_, rfl⟩
  have HN : Hid (L.length = n) := hn
  rw [hn] at hL RES ⊢
  clear hn
  go_enter Try.func36, Try.ntmps36
  go_wp2_with fail
  go_loopw [9, 16] (fun v y W => ∃ m : Nat, m ≤ n ∧ y = .int .i64 m ∧ Hid (OwnRl W w.heap.size v (withoutR (L.take m) kk a b)) ∧ Hid (Below w.heap.size w W)) (fun _ y _ => n - (intOf y).toNat)
  case atStart => exact ⟨0, by omega, rfl, startrl w, Go.Joins.below_alloc1 _ _⟩
  case round =>
    obtain ⟨m, hm, rfl, O, Bl⟩ := hrel
    obtain ⟨p9, c9, hv9, _, _⟩ := ownrl_read O.out
    subst hv9
    by_cases hlt : m < n
    · have hd : decide ((m : Int) < (n : Int)) = true := by simp; omega
      have LO : Hid ((withoutR (L.take m) kk a b).length ≤ 100) := by show _ ≤ _; have := without_len L kk a b m; omega
      have NX : Hid _ := without_next L kk a b m (by rw [HN.out]; exact hlt)
      obtain ⟨g, rfl, g1, g2, gc⟩ := (HI.out.below Bl.out) m (by rw [HN.out]; exact hlt)
      generalize L.getD m Rl.zero = r at gc NX
      obtain ⟨ry, rt, rp, rf, rw, ru, rx, rg, rd⟩ := r
      have y0 : wr.cell? ⟨g, m * 9, none⟩ = some (.int .i64 ry) := gc 0 _ rfl
      have y1 : wr.cell? ⟨g, m * 9 + 1, none⟩ = some (.int .i64 rt) := gc 1 _ rfl
      have y2 : wr.cell? ⟨g, m * 9 + 2, none⟩ = some (.int .i64 rp) := gc 2 _ rfl
      have y3 : wr.cell? ⟨g, m * 9 + 3, none⟩ = some (.int .i64 rf) := gc 3 _ rfl
      have y4 : wr.cell? ⟨g, m * 9 + 4, none⟩ = some (.bool rw) := gc 4 _ rfl
      have y5 : wr.cell? ⟨g, m * 9 + 5, none⟩ = some (.bool ru) := gc 5 _ rfl
      have y6 : wr.cell? ⟨g, m * 9 + 6, none⟩ = some (.bool rx) := gc 6 _ rfl
      have y7 : wr.cell? ⟨g, m * 9 + 7, none⟩ = some (.bool rg) := gc 7 _ rfl
      have y8 : wr.cell? ⟨g, m * 9 + 8, none⟩ = some (.bool rd) := gc 8 _ rfl
      clear gc
      generalize withoutR (L.take m) kk a b = OUT at O LO NX
      obtain ⟨nO, hnO⟩ : ∃ x, OUT.length = x := ⟨_, rfl⟩
      have HO : Hid (OUT.length = nO) := hnO
      have lO : nO ≤ 100 := by rw [← hnO]; exact LO.out
      rw [hnO]
      clear hnO LO
      have FC : Hid (∀ W : World, Calls Try.prog 41 #[.agg #[.int .i64 ry, .int .i64 rt, .int .i64 rp, .int .i64 rf, .bool rw, .bool ru, .bool rx, .bool rg, .bool rd], .int .i64 a, .int .i64 b] W fun e w' => e = .returned (.bool (Rl.fits ⟨ry, rt, rp, rf, rw, ru, rx, rg, rd⟩ a b)) ∧ Below W.heap.size W w') := fun W => rfits_any ⟨ry, rt, rp, rf, rw, ru, rx, rg, rd⟩ a b W
      obtain ⟨pm, hpm⟩ : ∃ z, rp.tmod 8 = z := ⟨_, rfl⟩
      have mI : (m : Int) < (n : Int) := by omega
      have mn : (n : Int) ≤ 100 := by omega
      go_upto_region 5 with fail
      go_cut [12] (fun cc wx => ∃ b2 : Bool, cc = .bool b2 ∧ Hid (b2 = goneW kk a b ⟨ry, rt, rp, rf, rw, ru, rx, rg, rd⟩) ∧ Hid (Below (wr.alloc (.cells #[.int .i64 ry, .int .i64 rt, .int .i64 rp, .int .i64 rf, .bool rw, .bool ru, .bool rx, .bool rg, .bool rd] 68)).heap.size (wr.alloc (.cells #[.int .i64 ry, .int .i64 rt, .int .i64 rp, .int .i64 rf, .bool rw, .bool ru, .bool rx, .bool rg, .bool rd] 68)) wx))
      case first =>
        clear NX
        rcases hk4 with hk | hk | hk | hk
        · subst hk
          have HP : Hid (rp.tmod 8 = pm) := hpm
          by_cases c1 : pm = a
          · have d1 : (pm == a) = true := by simp [c1]
            by_cases c2 : ry = b
            · have d2 : (ry == b) = true := by simp [c2]
              have C2 : Hid (ry = b) := c2
              have C1 : Hid (pm = a) := c1
              clear c1 c2
              go_wp2_with fail
              go_meet
              exact ⟨_, rfl, (by show _ = _; unfold goneW; simp [HP.out, C1.out, C2.out]), Below.refl _ _⟩
            · have d2 : (ry == b) = false := by simp [c2]
              go_wp2_with fail
              go_meet
              exact ⟨_, rfl, (by show _ = _; unfold goneW; simp [HP.out, c1, c2]), Below.refl _ _⟩
          · have d1 : (pm == a) = false := by simp [c1]
            go_wp2_with fail
            go_meet
            exact ⟨_, rfl, (by show _ = _; unfold goneW; simp [HP.out, c1]), Below.refl _ _⟩
        · subst hk
          go_wp2_with fail
          refine (FC.out _).mono ?_
          rintro e u1 ⟨rfl, hb⟩
          have HB1 : Hid (Below (wr.alloc (.cells #[.int .i64 ry, .int .i64 rt, .int .i64 rp, .int .i64 rf, .bool rw, .bool ru, .bool rx, .bool rg, .bool rd] 68)).heap.size (wr.alloc (.cells #[.int .i64 ry, .int .i64 rt, .int .i64 rp, .int .i64 rf, .bool rw, .bool ru, .bool rx, .bool rg, .bool rd] 68)) u1) := hb
          clear hb
          obtain ⟨fb, hfb⟩ : ∃ fb, Rl.fits ⟨ry, rt, rp, rf, rw, ru, rx, rg, rd⟩ a b = fb := ⟨_, rfl⟩
          rw [hfb]
          have HF : Hid (Rl.fits ⟨ry, rt, rp, rf, rw, ru, rx, rg, rd⟩ a b = fb) := hfb
          clear hfb
          cases fb
          · go_wp2_with fail
            go_meet
            exact ⟨_, rfl, (by show _ = _; unfold goneW; simp [HF.out]), HB1⟩
          · go_wp2_with fail
            go_meet
            exact ⟨_, rfl, (by show _ = _; unfold goneW; simp [HF.out]), HB1⟩
        · subst hk
          by_cases c1 : rt = a
          · have d1 : (rt == a) = true := by simp [c1]
            have C1 : Hid (rt = a) := c1
            clear c1
            cases rg
            · go_wp2_with fail
              go_meet
              exact ⟨_, rfl, (by show _ = _; unfold goneW; simp [C1.out]), Below.refl _ _⟩
            · go_wp2_with fail
              go_meet
              exact ⟨_, rfl, (by show _ = _; unfold goneW; simp [C1.out]), Below.refl _ _⟩
          · have d1 : (rt == a) = false := by simp [c1]
            go_wp2_with fail
            go_meet
            exact ⟨_, rfl, (by show _ = _; unfold goneW; simp [c1]), Below.refl _ _⟩
        · subst hk
          by_cases c1 : a = 0
          · have d1 : (a == 0) = true := by simp [c1]
            go_wp2_with fail
            go_meet
            exact ⟨_, rfl, (by show _ = _; unfold goneW; simp [c1]), Below.refl _ _⟩
          · have d1 : (a == 0) = false := by simp [c1]
            cases rg
            · go_wp2_with fail
              go_meet
              exact ⟨_, rfl, (by show _ = _; unfold goneW; simp [c1]), Below.refl _ _⟩
            · go_wp2_with fail
              go_meet
              exact ⟨_, rfl, (by show _ = _; unfold goneW; simp [c1]), Below.refl _ _⟩
      case rest =>
        obtain ⟨b2, rfl, KB, BW⟩ := hcut
        have O2 : Hid (OwnRl wc w.heap.size (.slice p9 OUT.length c9) OUT) := own_keep (own_keep O.out (Go.Joins.below_alloc1 _ _)) BW.out
        have B2 : Hid (Below w.heap.size w wc) := below_then (below_new Bl.out _) BW.out
        have XW : Hid (wc.heap[wr.heap.size]? = some (.cells #[.int .i64 ry, .int .i64 rt, .int .i64 rp, .int .i64 rf, .bool rw, .bool ru, .bool rx, .bool rg, .bool rd] 68 (0, 0))) := (BW.out.block _ (by rw [World.size_alloc]; omega)).trans (own1 wr _)
        rw [← KB.out] at NX
        clear BW KB O Bl y0 y1 y2 y3 y4 y5 y6 y7 y8 FC
        generalize wr.heap.size = xb at XW ⊢
        cases b2
        · have N2 : Hid (withoutR (L.take (m + 1)) kk a b = OUT ++ [⟨ry, rt, rp, rf, rw, ru, rx, rg, rd⟩]) := NX.out
          have x0 : wc.cell? ⟨xb, 0, none⟩ = some (.int .i64 ry) := Go.Joins.cell_of_block XW.out 0
          have x1 : wc.cell? ⟨xb, 1, none⟩ = some (.int .i64 rt) := Go.Joins.cell_of_block XW.out 1
          have x2 : wc.cell? ⟨xb, 2, none⟩ = some (.int .i64 rp) := Go.Joins.cell_of_block XW.out 2
          have x3 : wc.cell? ⟨xb, 3, none⟩ = some (.int .i64 rf) := Go.Joins.cell_of_block XW.out 3
          have x4 : wc.cell? ⟨xb, 4, none⟩ = some (.bool rw) := Go.Joins.cell_of_block XW.out 4
          have x5 : wc.cell? ⟨xb, 5, none⟩ = some (.bool ru) := Go.Joins.cell_of_block XW.out 5
          have x6 : wc.cell? ⟨xb, 6, none⟩ = some (.bool rx) := Go.Joins.cell_of_block XW.out 6
          have x7 : wc.cell? ⟨xb, 7, none⟩ = some (.bool rg) := Go.Joins.cell_of_block XW.out 7
          have x8 : wc.cell? ⟨xb, 8, none⟩ = some (.bool rd) := Go.Joins.cell_of_block XW.out 8
          have lx : xb < wc.heap.size := (Array.getElem?_eq_some_iff.1 XW.out).1
          have OW : Hid ((wc.alloc (.cells #[.int .i64 ry, .int .i64 rt, .int .i64 rp, .int .i64 rf, .bool rw, .bool ru, .bool rx, .bool rg, .bool rd] 68)).ownsRow w.heap.size 68 9 (.slice p9 nO c9) nO (OUT.flatMap Rl.enc)) := by show World.ownsRow _ _ _ _ _ _ _; rw [← HO.out]; exact own_keep O2.out (Go.Joins.below_alloc1 _ _)
          have NW : Hid (∀ j x, ([.int .i64 ry, .int .i64 rt, .int .i64 rp, .int .i64 rf, .bool rw, .bool ru, .bool rx, .bool rg, .bool rd] : List Value)[j]? = some x → (wc.alloc (.cells #[.int .i64 ry, .int .i64 rt, .int .i64 rp, .int .i64 rf, .bool rw, .bool ru, .bool rx, .bool rg, .bool rd] 68)).cell? ((⟨wc.heap.size, 0, none⟩ : Addr).add j) = some x) := news_cells1 wc #[.int .i64 ry, .int .i64 rt, .int .i64 rp, .int .i64 rf, .bool rw, .bool ru, .bool rx, .bool rg, .bool rd] 68
          have ON : Hid (∀ x ∈ ([.int .i64 ry, .int .i64 rt, .int .i64 rp, .int .i64 rf, .bool rw, .bool ru, .bool rx, .bool rg, .bool rd] : List Value), x.oneCell' = true) := by show ∀ x ∈ ([.int .i64 ry, .int .i64 rt, .int .i64 rp, .int .i64 rf, .bool rw, .bool ru, .bool rx, .bool rg, .bool rd] : List Value), x.oneCell' = true; simp [Value.oneCell']
          have BA : Hid (Below w.heap.size w (wc.alloc (.cells #[.int .i64 ry, .int .i64 rt, .int .i64 rp, .int .i64 rf, .bool rw, .bool ru, .bool rx, .bool rg, .bool rd] 68))) := below_new B2.out _
          have HZ : Hid (w.heap.size ≤ (wc.alloc (.cells #[.int .i64 ry, .int .i64 rt, .int .i64 rp, .int .i64 rf, .bool rw, .bool ru, .bool rx, .bool rg, .bool rd] 68)).heap.size) := BA.out.size
          have MX : Hid (nO + 1 ≤ maxLen) := by show _ ≤ _; unfold maxLen; omega
          have BY : Hid ((nO + 1) * 40 ≤ 140737488355328) := by show _ ≤ _; omega
          clear NX O2 B2 XW
          go_wp2_with (at_builtin; refine wpList_append_own _ rfl _ _ 59 rfl w.heap.size 68 i0 zref 9 40 Try.underlying59 hi hz0 hz1 hz2 rfl (by decide) (.slice p9 nO c9) nO (OUT.flatMap Rl.enc) rfl OW.out ⟨wc.heap.size, 0, none⟩ 1 1 ([.int .i64 ry, .int .i64 rt, .int .i64 rp, .int .i64 rf, .bool rw, .bool ru, .bool rx, .bool rg, .bool rd] : List Value) rfl rfl NW.out ON.out MX.out BY.out HZ.out ?_; intro v1 a0 hown hg hnil; have O1 : Hid (OwnRl a0 w.heap.size v1 (OUT ++ [⟨ry, rt, rp, rf, rw, ru, rx, rg, rd⟩])) := OwnRl.next (by rw [HO.out]; exact hown); have B1 : Hid (Below w.heap.size w a0) := below_grown (base := 0) BA.out OW.out hg; clear hown hg hnil OW NW ON HZ MX BY BA)
          go_wp2_with fail
          go_roundw
          case rel => exact ⟨m + 1, by omega, by go_num, (by show OwnRl _ _ _ _; rw [N2.out]; exact O1.out), B1⟩
          case measure => simp [intOf]; omega
        · have N2 : Hid (withoutR (L.take (m + 1)) kk a b = OUT) := NX.out
          clear NX
          go_wp2_with fail
          go_roundw
          case rel => exact ⟨m + 1, by omega, by go_num, (by show OwnRl _ _ _ _; rw [N2.out, ← HO.out]; exact O2.out), B2⟩
          case measure => simp [intOf]; omega
    · have hd : decide ((m : Int) < (n : Int)) = false := by simp; omega
      obtain rfl : m = n := by omega
      rw [RES.out] at O ⊢
      obtain ⟨p2, c2, hv2, _, I2⟩ := ownrl_read O.out
      have I2' : Hid (IsRl wr w.heap.size p2 RR) := I2
      cases hv2
      clear I2 O
      go_wp2_with fail
      go_ret
      exact ⟨_, _, rfl, I2'.out, Bl.out⟩
end Go.Proofs.Ytihedjlcjkbjfaa
