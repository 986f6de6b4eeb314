/- The lines: the document's Fill. -/
import Derived.Test.YtihedjlcjkbjfaaU7
import Derived.Deep.DeepCutAuto
namespace Go.Proofs.Ytihedjlcjkbjfaa
open Go.ChangeShapes Go.WideShapes Go.ChangeAt Go.RowKit Go.Maps
set_option linter.unusedSimpArgs false
set_option linter.unusedVariables false
set_option maxRecDepth 8000

theorem fills_next (L : List Rl) (x : Rl) (m : Nat) (h : m < L.length) : fillS (L.take (m + 1)) x = fstep x (fillS (L.take m) x) (L.getD m Rl.zero) := by
  rw [takeL L m h, fill_snoc]
theorem fills_len (x : Rl) : ∀ (L : List Rl) (s : List Rl × Bool), (L.foldl (fstep x) s).1.length ≤ s.1.length + 2 * L.length
  | [], s => by simp
  | r :: L, s => by
    rw [List.foldl_cons]
    refine Nat.le_trans (fills_len x L _) ?_
    unfold fstep
    split
    · simp; omega
    · split
      · simp; omega
      · simp; omega
theorem fillS_len (L : List Rl) (x : Rl) (m : Nat) : (fillS (L.take m) x).1.length ≤ 2 * m := by
  have := fills_len x (L.take m) ([], false)
  have h : (L.take m).length ≤ m := by rw [List.length_take]; omega
  unfold fillS
  simp at this
  omega
theorem cells9 {w : World} {b : Nat} {C : Array Value} {t : TypeId} (h : w.heap[b]? = some (.cells C t (0, 0))) (j : Nat) (v : Value) (hv : C[j]? = some v) : w.cell? ⟨b, j, none⟩ = some v := (Go.Joins.cell_of_block h j).trans hv
theorem own_lt {w : World} {base n e s : Nat} {v : Value} {xs : List Value} (h : w.ownsRow base e s v n xs) : ∀ j, v.ownBlock = some j → j < w.heap.size := by
  obtain ⟨h1, h2 | ⟨g, cap, cur, e1, e2, e3, e4⟩⟩ := h
  · rw [h2.1]; intro j hj; cases hj
  · rw [e1]; intro j hj; cases hj; exact (Array.getElem?_eq_some_iff.1 e3).1
theorem yh_next {w1 U a0 : World} {v : Value} {n e s yb : Nat} {xs : List Value} {o : Obj} (BA : Below w1.heap.size w1 U) (O : U.ownsRow w1.heap.size e s v n xs) (hg : U.grownBy a0 v.ownBlock) (h : U.heap[yb]? = some o) (hne : ∀ j, v.ownBlock = some j → j ≠ yb) : a0.heap[yb]? = some o :=
  (hg.block yb (Array.getElem?_eq_some_iff.1 h).1 (fun q => hne yb q.symm rfl)).trans h
set_option maxHeartbeats 16000000 in
theorem fill_any (base : Nat) (p : Option Addr) (c : Nat) (L : List Rl) (hL : L.length ≤ 100) (x : Rl) (w : World) (h : IsRl w base p L) :
    Calls Try.prog 34 #[.slice p L.length c, x.val] w fun e w' => ∃ p' c', e = .returned (.slice p' (fillR L x).length c') ∧ IsRl w' w.heap.size p' (fillR L x) ∧ Below w.heap.size w w' := by
  obtain ⟨i0, hi, hz0, hz1, hz2⟩ := info5 ref_info5
  obtain ⟨xy, xt, xp, xf, xw, xu, xx, xg, xd⟩ := x
  have HI : Hid (IsRl (w.alloc (.cells #[.int .i64 xy, .int .i64 xt, .int .i64 xp, .int .i64 xf, .bool xw, .bool xu, .bool xx, .bool xg, .bool xd] 68)) base p L) := h.below (Go.Joins.below_alloc1 _ _)
  have RES : Hid (fillS (L.take L.length) ⟨xy, xt, xp, xf, xw, xu, xx, xg, xd⟩ = fillS L ⟨xy, xt, xp, xf, xw, xu, xx, xg, xd⟩) := by show _ = _; rw [List.take_length]
  have RR1 : Hid ((fillS L ⟨xy, xt, xp, xf, xw, xu, xx, xg, xd⟩).2 = true → fillR L ⟨xy, xt, xp, xf, xw, xu, xx, xg, xd⟩ = (fillS L ⟨xy, xt, xp, xf, xw, xu, xx, xg, xd⟩).1) := fun q => by unfold fillR; rw [if_pos q]
  have RR2 : Hid ((fillS L ⟨xy, xt, xp, xf, xw, xu, xx, xg, xd⟩).2 = false → fillR L ⟨xy, xt, xp, xf, xw, xu, xx, xg, xd⟩ = (fillS L ⟨xy, xt, xp, xf, xw, xu, xx, xg, xd⟩).1 ++ [⟨xy, xt, xp, xf, xw, xu, xx, xg, xd⟩]) := fun q => by unfold fillR; rw [if_neg (by rw [q]; simp)]
  generalize fillR L ⟨xy, xt, xp, xf, xw, xu, xx, xg, xd⟩ = RR at RR1 RR2 ⊢
  rw [← RES.out] at RR1 RR2
  clear h RES
  obtain ⟨n, hn⟩ : ∃ n, L.length = n := ⟨_, rfl⟩
  have HN : Hid (L.length = n) := hn
  rw [hn] at hL RR1 RR2 ⊢
  clear hn
  have FCA : Hid (∀ (r : Rl) (W : World), Calls Try.prog 41 #[r.val, .int .i64 xt, .int .i64 xp] W fun e w' => e = .returned (.bool (r.fits xt xp)) ∧ Below W.heap.size W w') := fun r W => rfits_any r xt xp W
  have BCA : Hid (∀ (r : Rl) (W : World), Calls Try.prog 45 #[.agg #[.int .i64 xy, .int .i64 xt, .int .i64 xp, .int .i64 xf, .bool xw, .bool xu, .bool xx, .bool xg, .bool xd], r.val] W fun e w' => e = .returned (.bool (Rl.before ⟨xy, xt, xp, xf, xw, xu, xx, xg, xd⟩ r)) ∧ Below W.heap.size W w') := fun r W => rbefore_any ⟨xy, xt, xp, xf, xw, xu, xx, xg, xd⟩ r W
  go_enter Try.func34, Try.ntmps34
  go_wp2_with fail
  have E1 : Hid ((w.alloc (.cells #[.int .i64 xy, .int .i64 xt, .int .i64 xp, .int .i64 xf, .bool xw, .bool xu, .bool xx, .bool xg, .bool xd] 68)).heap.size = w.heap.size + 1) := World.size_alloc _ _
  have XH0 : Hid ((w.alloc (.cells #[.int .i64 xy, .int .i64 xt, .int .i64 xp, .int .i64 xf, .bool xw, .bool xu, .bool xx, .bool xg, .bool xd] 68)).heap[w.heap.size]? = some (.cells #[.int .i64 xy, .int .i64 xt, .int .i64 xp, .int .i64 xf, .bool xw, .bool xu, .bool xx, .bool xg, .bool xd] 68 (0, 0))) := own1 w _
  have BW : Hid (Below w.heap.size w (w.alloc (.cells #[.int .i64 xy, .int .i64 xt, .int .i64 xp, .int .i64 xf, .bool xw, .bool xu, .bool xx, .bool xg, .bool xd] 68))) := Go.Joins.below_alloc1 _ _
  generalize (w.alloc (.cells #[.int .i64 xy, .int .i64 xt, .int .i64 xp, .int .i64 xf, .bool xw, .bool xu, .bool xx, .bool xg, .bool xd] 68)) = w1 at E1 XH0 BW HI ⊢
  go_loopw [5, 6, 12] (fun v dn y W => ∃ (m : Nat) (db : Bool), m ≤ n ∧ y = .int .i64 m ∧ dn = .bool db ∧ Hid (OwnRl W w1.heap.size v (fillS (L.take m) ⟨xy, xt, xp, xf, xw, xu, xx, xg, xd⟩).1) ∧ Hid ((fillS (L.take m) ⟨xy, xt, xp, xf, xw, xu, xx, xg, xd⟩).2 = db) ∧ Hid (Below w1.heap.size w1 W)) (fun _ _ y _ => n - (intOf y).toNat)
  case atStart => exact ⟨0, false, by omega, rfl, rfl, (by have := startrl w1; rw [E1.out] at this ⊢; exact this), rfl, Go.Joins.below_alloc1 _ _⟩
  case round =>
    obtain ⟨m, db, hm, rfl, rfl, O, HD, Bl⟩ := hrel
    obtain ⟨p9, c9, hv9, _, _⟩ := ownrl_read O.out
    subst hv9
    have lxw : w.heap.size < wr.heap.size := Nat.lt_of_lt_of_le (by rw [E1.out]; omega) Bl.out.size
    have XH : Hid (wr.heap[w.heap.size]? = some (.cells #[.int .i64 xy, .int .i64 xt, .int .i64 xp, .int .i64 xf, .bool xw, .bool xu, .bool xx, .bool xg, .bool xd] 68 (0, 0))) := (Bl.out.block _ (by rw [E1.out]; omega)).trans XH0.out
    have xc0 : wr.cell? ⟨w.heap.size, 0, none⟩ = some (.int .i64 xy) := cells9 XH.out 0 _ rfl
    have xc1 : wr.cell? ⟨w.heap.size, 1, none⟩ = some (.int .i64 xt) := cells9 XH.out 1 _ rfl
    have xc2 : wr.cell? ⟨w.heap.size, 2, none⟩ = some (.int .i64 xp) := cells9 XH.out 2 _ rfl
    have xc3 : wr.cell? ⟨w.heap.size, 3, none⟩ = some (.int .i64 xf) := cells9 XH.out 3 _ rfl
    have xc4 : wr.cell? ⟨w.heap.size, 4, none⟩ = some (.bool xw) := cells9 XH.out 4 _ rfl
    have xc5 : wr.cell? ⟨w.heap.size, 5, none⟩ = some (.bool xu) := cells9 XH.out 5 _ rfl
    have xc6 : wr.cell? ⟨w.heap.size, 6, none⟩ = some (.bool xx) := cells9 XH.out 6 _ rfl
    have xc7 : wr.cell? ⟨w.heap.size, 7, none⟩ = some (.bool xg) := cells9 XH.out 7 _ rfl
    have xc8 : wr.cell? ⟨w.heap.size, 8, none⟩ = some (.bool xd) := cells9 XH.out 8 _ rfl
    have LO : Hid ((fillS (L.take m) ⟨xy, xt, xp, xf, xw, xu, xx, xg, xd⟩).1.length ≤ 2 * m) := fillS_len L ⟨xy, xt, xp, xf, xw, xu, xx, xg, xd⟩ m
    by_cases hlt : m < n
    · have hd : decide ((m : Int) < (n : Int)) = true := by simp; omega
      have NX : Hid (fillS (L.take (m + 1)) ⟨xy, xt, xp, xf, xw, xu, xx, xg, xd⟩ = fstep ⟨xy, xt, xp, xf, xw, xu, xx, xg, xd⟩ (fillS (L.take m) ⟨xy, xt, xp, xf, xw, xu, xx, xg, xd⟩) (L.getD m Rl.zero)) := fills_next L ⟨xy, xt, xp, xf, xw, xu, xx, xg, xd⟩ m (by rw [HN.out]; exact hlt)
      obtain ⟨g, rfl, g1, g2, gc⟩ := (HI.out.below Bl.out) m (by rw [HN.out]; exact hlt)
      generalize L.getD m Rl.zero = r at gc NX
      have FC := FCA.out r
      have BC := BCA.out r
      obtain ⟨ry, rt, rp, rf, rw, ru, rx, rg, rd⟩ := r
      have FC : Hid _ := FC
      have BC : Hid _ := BC
      have y0 : wr.cell? ⟨g, m * 9, none⟩ = some (.int .i64 ry) := gc 0 _ rfl
      have y1 : wr.cell? ⟨g, m * 9 + 1, none⟩ = some (.int .i64 rt) := gc 1 _ rfl
      have y2 : wr.cell? ⟨g, m * 9 + 2, none⟩ = some (.int .i64 rp) := gc 2 _ rfl
      have y3 : wr.cell? ⟨g, m * 9 + 3, none⟩ = some (.int .i64 rf) := gc 3 _ rfl
      have y4 : wr.cell? ⟨g, m * 9 + 4, none⟩ = some (.bool rw) := gc 4 _ rfl
      have y5 : wr.cell? ⟨g, m * 9 + 5, none⟩ = some (.bool ru) := gc 5 _ rfl
      have y6 : wr.cell? ⟨g, m * 9 + 6, none⟩ = some (.bool rx) := gc 6 _ rfl
      have y7 : wr.cell? ⟨g, m * 9 + 7, none⟩ = some (.bool rg) := gc 7 _ rfl
      have y8 : wr.cell? ⟨g, m * 9 + 8, none⟩ = some (.bool rd) := gc 8 _ rfl
      clear gc RR1 RR2 FCA BCA
      generalize fillS (L.take m) ⟨xy, xt, xp, xf, xw, xu, xx, xg, xd⟩ = S at O LO NX HD ⊢
      obtain ⟨OUT, db'⟩ := S
      simp only at O LO HD ⊢
      have hdb : db' = db := HD.out
      subst hdb
      obtain ⟨nO, hnO⟩ : ∃ x, OUT.length = x := ⟨_, rfl⟩
      have HO : Hid (OUT.length = nO) := hnO
      have lO : nO ≤ 200 := by rw [← hnO]; have := LO.out; omega
      rw [hnO]
      clear hnO LO HD
      obtain ⟨pm, hpm⟩ : ∃ z, rp.tmod 8 = z := ⟨_, rfl⟩
      obtain ⟨xm, hxm⟩ : ∃ z, xp.tmod 8 = z := ⟨_, rfl⟩
      have mI : (m : Int) < (n : Int) := by omega
      have mn : (n : Int) ≤ 100 := by omega
      go_upto_region 6 with fail
      go_cut [48] (fun cc wx => ∃ b2 : Bool, cc = .bool b2 ∧ Hid (b2 = goneF ⟨xy, xt, xp, xf, xw, xu, xx, xg, xd⟩ ⟨ry, rt, rp, rf, rw, ru, rx, rg, rd⟩) ∧ Hid (Below (wr.alloc (.cells #[.int .i64 ry, .int .i64 rt, .int .i64 rp, .int .i64 rf, .bool rw, .bool ru, .bool rx, .bool rg, .bool rd] 68)).heap.size (wr.alloc (.cells #[.int .i64 ry, .int .i64 rt, .int .i64 rp, .int .i64 rf, .bool rw, .bool ru, .bool rx, .bool rg, .bool rd] 68)) wx))
      case first =>
        clear NX
        have HP : Hid (rp.tmod 8 = pm) := hpm
        have HX : Hid (xp.tmod 8 = xm) := hxm
        go_wp2_with fail
        refine (FC.out _).mono ?_
        rintro e u1 ⟨rfl, hb⟩
        have HB1 : Hid (Below (wr.alloc (.cells #[.int .i64 ry, .int .i64 rt, .int .i64 rp, .int .i64 rf, .bool rw, .bool ru, .bool rx, .bool rg, .bool rd] 68)).heap.size (wr.alloc (.cells #[.int .i64 ry, .int .i64 rt, .int .i64 rp, .int .i64 rf, .bool rw, .bool ru, .bool rx, .bool rg, .bool rd] 68)) u1) := hb
        have XH1 : Hid (u1.heap[w.heap.size]? = some (.cells #[.int .i64 xy, .int .i64 xt, .int .i64 xp, .int .i64 xf, .bool xw, .bool xu, .bool xx, .bool xg, .bool xd] 68 (0, 0))) := (hb.block _ (by rw [World.size_alloc]; omega)).trans ((Go.Joins.below_alloc1 wr _).block _ lxw |>.trans XH.out)
        have YH1 : Hid (u1.heap[wr.heap.size]? = some (.cells #[.int .i64 ry, .int .i64 rt, .int .i64 rp, .int .i64 rf, .bool rw, .bool ru, .bool rx, .bool rg, .bool rd] 68 (0, 0))) := (hb.block _ (by rw [World.size_alloc]; omega)).trans (own1 wr _)
        clear hb xc0 xc1 xc2 xc3 xc4 xc5 xc6 xc7 xc8
        have xc0 : u1.cell? ⟨w.heap.size, 0, none⟩ = some (.int .i64 xy) := cells9 XH1.out 0 _ rfl
        have xc1 : u1.cell? ⟨w.heap.size, 1, none⟩ = some (.int .i64 xt) := cells9 XH1.out 1 _ rfl
        have xc2 : u1.cell? ⟨w.heap.size, 2, none⟩ = some (.int .i64 xp) := cells9 XH1.out 2 _ rfl
        have xc3 : u1.cell? ⟨w.heap.size, 3, none⟩ = some (.int .i64 xf) := cells9 XH1.out 3 _ rfl
        have xc4 : u1.cell? ⟨w.heap.size, 4, none⟩ = some (.bool xw) := cells9 XH1.out 4 _ rfl
        have xc5 : u1.cell? ⟨w.heap.size, 5, none⟩ = some (.bool xu) := cells9 XH1.out 5 _ rfl
        have xc6 : u1.cell? ⟨w.heap.size, 6, none⟩ = some (.bool xx) := cells9 XH1.out 6 _ rfl
        have xc7 : u1.cell? ⟨w.heap.size, 7, none⟩ = some (.bool xg) := cells9 XH1.out 7 _ rfl
        have xc8 : u1.cell? ⟨w.heap.size, 8, none⟩ = some (.bool xd) := cells9 XH1.out 8 _ rfl
        have yc0 : u1.cell? ⟨wr.heap.size, 0, none⟩ = some (.int .i64 ry) := cells9 YH1.out 0 _ rfl
        have yc1 : u1.cell? ⟨wr.heap.size, 1, none⟩ = some (.int .i64 rt) := cells9 YH1.out 1 _ rfl
        have yc2 : u1.cell? ⟨wr.heap.size, 2, none⟩ = some (.int .i64 rp) := cells9 YH1.out 2 _ rfl
        have yc3 : u1.cell? ⟨wr.heap.size, 3, none⟩ = some (.int .i64 rf) := cells9 YH1.out 3 _ rfl
        have yc4 : u1.cell? ⟨wr.heap.size, 4, none⟩ = some (.bool rw) := cells9 YH1.out 4 _ rfl
        have yc5 : u1.cell? ⟨wr.heap.size, 5, none⟩ = some (.bool ru) := cells9 YH1.out 5 _ rfl
        have yc6 : u1.cell? ⟨wr.heap.size, 6, none⟩ = some (.bool rx) := cells9 YH1.out 6 _ rfl
        have yc7 : u1.cell? ⟨wr.heap.size, 7, none⟩ = some (.bool rg) := cells9 YH1.out 7 _ rfl
        have yc8 : u1.cell? ⟨wr.heap.size, 8, none⟩ = some (.bool rd) := cells9 YH1.out 8 _ rfl
        obtain ⟨fb, hfb⟩ : ∃ fb, Rl.fits ⟨ry, rt, rp, rf, rw, ru, rx, rg, rd⟩ xt xp = fb := ⟨_, rfl⟩
        rw [hfb]
        have HF : Hid (Rl.fits ⟨ry, rt, rp, rf, rw, ru, rx, rg, rd⟩ xt xp = fb) := hfb
        clear hfb
        cases fb
        · cases xg
          · by_cases c2 : pm = xm
            · have d2 : (pm == xm) = true := by simp [c2]
              have C2 : Hid (pm = xm) := c2
              clear c2
              by_cases c3 : ry = xy
              · have d3 : (ry == xy) = true := by simp [c3]
                have C3 : Hid (ry = xy) := c3
                clear c3
                go_wp2_with fail
                go_meet
                exact ⟨_, rfl, (by show _ = _; unfold goneF; simp [HF.out, HP.out, HX.out, C2.out, C3.out]), HB1⟩
              · have d3 : (ry == xy) = false := by simp [c3]
                go_wp2_with fail
                go_meet
                exact ⟨_, rfl, (by show _ = _; unfold goneF; simp [HF.out, HP.out, HX.out, C2.out, c3]), HB1⟩
            · have d2 : (pm == xm) = false := by simp [c2]
              go_wp2_with fail
              go_meet
              exact ⟨_, rfl, (by show _ = _; unfold goneF; simp [HF.out, HP.out, HX.out, c2]), HB1⟩
          · by_cases c1 : rp = xp
            · have d1 : (rp == xp) = true := by simp [c1]
              have C1 : Hid (rp = xp) := c1
              clear c1
              go_wp2_with fail
              go_meet
              exact ⟨_, rfl, (by show _ = _; unfold goneF; simp [HF.out, C1.out]), HB1⟩
            · have d1 : (rp == xp) = false := by simp [c1]
              by_cases c2 : pm = xm
              · have d2 : (pm == xm) = true := by simp [c2]
                have C2 : Hid (pm = xm) := c2
                clear c2
                by_cases c3 : ry = xy
                · have d3 : (ry == xy) = true := by simp [c3]
                  have C3 : Hid (ry = xy) := c3
                  clear c3
                  go_wp2_with fail
                  go_meet
                  exact ⟨_, rfl, (by show _ = _; unfold goneF; simp [HF.out, c1, HP.out, HX.out, C2.out, C3.out]), HB1⟩
                · have d3 : (ry == xy) = false := by simp [c3]
                  go_wp2_with fail
                  go_meet
                  exact ⟨_, rfl, (by show _ = _; unfold goneF; simp [HF.out, c1, HP.out, HX.out, C2.out, c3]), HB1⟩
              · have d2 : (pm == xm) = false := by simp [c2]
                go_wp2_with fail
                go_meet
                exact ⟨_, rfl, (by show _ = _; unfold goneF; simp [HF.out, c1, HP.out, HX.out, c2]), HB1⟩
        · go_wp2_with fail
          go_meet
          exact ⟨_, rfl, (by show _ = _; unfold goneF; simp [HF.out]), HB1⟩
      case rest =>
        obtain ⟨b2, rfl, KB, BX⟩ := hcut
        have lyw : ∀ j, (Value.slice p9 nO c9).ownBlock = some j → j ≠ wr.heap.size := fun j hj => by have := own_lt O.out j (by rw [HO.out]; exact hj); omega
        have O2 : Hid (OwnRl wc w1.heap.size (.slice p9 OUT.length c9) OUT) := own_keep (own_keep O.out (Go.Joins.below_alloc1 _ _)) BX.out
        have B2 : Hid (Below w1.heap.size w1 wc) := below_then (below_new Bl.out _) BX.out
        have YH : Hid (wc.heap[wr.heap.size]? = some (.cells #[.int .i64 ry, .int .i64 rt, .int .i64 rp, .int .i64 rf, .bool rw, .bool ru, .bool rx, .bool rg, .bool rd] 68 (0, 0))) := (BX.out.block _ (by rw [World.size_alloc]; omega)).trans (own1 wr _)
        have XH2 : Hid (wc.heap[w.heap.size]? = some (.cells #[.int .i64 xy, .int .i64 xt, .int .i64 xp, .int .i64 xf, .bool xw, .bool xu, .bool xx, .bool xg, .bool xd] 68 (0, 0))) := (BX.out.block _ (by rw [World.size_alloc]; omega)).trans (((Go.Joins.below_alloc1 wr _).block _ lxw).trans XH.out)
        have lyc : wr.heap.size < wc.heap.size := (Array.getElem?_eq_some_iff.1 YH.out).1
        have lxc : w.heap.size < wc.heap.size := (Array.getElem?_eq_some_iff.1 XH2.out).1
        have N2 : Hid (fillS (L.take (m + 1)) ⟨xy, xt, xp, xf, xw, xu, xx, xg, xd⟩ = (if b2 = true then (OUT, db') else if (!db' && Rl.before ⟨xy, xt, xp, xf, xw, xu, xx, xg, xd⟩ ⟨ry, rt, rp, rf, rw, ru, rx, rg, rd⟩) = true then (OUT ++ [⟨xy, xt, xp, xf, xw, xu, xx, xg, xd⟩] ++ [⟨ry, rt, rp, rf, rw, ru, rx, rg, rd⟩], true) else (OUT ++ [⟨ry, rt, rp, rf, rw, ru, rx, rg, rd⟩], db'))) := by show _ = _; rw [NX.out, KB.out]; rfl
        clear NX BX KB O Bl y0 y1 y2 y3 y4 y5 y6 y7 y8 FC XH xc0 xc1 xc2 xc3 xc4 xc5 xc6 xc7 xc8
        have NX : Hid True := trivial
        have XH := XH2
        clear XH2
        generalize wr.heap.size = yb at YH lyw lyc ⊢
        have xc0 : wc.cell? ⟨w.heap.size, 0, none⟩ = some (.int .i64 xy) := cells9 XH.out 0 _ rfl
        have xc1 : wc.cell? ⟨w.heap.size, 1, none⟩ = some (.int .i64 xt) := cells9 XH.out 1 _ rfl
        have xc2 : wc.cell? ⟨w.heap.size, 2, none⟩ = some (.int .i64 xp) := cells9 XH.out 2 _ rfl
        have xc3 : wc.cell? ⟨w.heap.size, 3, none⟩ = some (.int .i64 xf) := cells9 XH.out 3 _ rfl
        have xc4 : wc.cell? ⟨w.heap.size, 4, none⟩ = some (.bool xw) := cells9 XH.out 4 _ rfl
        have xc5 : wc.cell? ⟨w.heap.size, 5, none⟩ = some (.bool xu) := cells9 XH.out 5 _ rfl
        have xc6 : wc.cell? ⟨w.heap.size, 6, none⟩ = some (.bool xx) := cells9 XH.out 6 _ rfl
        have xc7 : wc.cell? ⟨w.heap.size, 7, none⟩ = some (.bool xg) := cells9 XH.out 7 _ rfl
        have xc8 : wc.cell? ⟨w.heap.size, 8, none⟩ = some (.bool xd) := cells9 XH.out 8 _ rfl
        have yc0 : wc.cell? ⟨yb, 0, none⟩ = some (.int .i64 ry) := cells9 YH.out 0 _ rfl
        have yc1 : wc.cell? ⟨yb, 1, none⟩ = some (.int .i64 rt) := cells9 YH.out 1 _ rfl
        have yc2 : wc.cell? ⟨yb, 2, none⟩ = some (.int .i64 rp) := cells9 YH.out 2 _ rfl
        have yc3 : wc.cell? ⟨yb, 3, none⟩ = some (.int .i64 rf) := cells9 YH.out 3 _ rfl
        have yc4 : wc.cell? ⟨yb, 4, none⟩ = some (.bool rw) := cells9 YH.out 4 _ rfl
        have yc5 : wc.cell? ⟨yb, 5, none⟩ = some (.bool ru) := cells9 YH.out 5 _ rfl
        have yc6 : wc.cell? ⟨yb, 6, none⟩ = some (.bool rx) := cells9 YH.out 6 _ rfl
        have yc7 : wc.cell? ⟨yb, 7, none⟩ = some (.bool rg) := cells9 YH.out 7 _ rfl
        have yc8 : wc.cell? ⟨yb, 8, none⟩ = some (.bool rd) := cells9 YH.out 8 _ rfl
        cases b2
        · cases db'
          · go_wp2_with fail
            refine (BC.out _).mono ?_
            rintro e u1 ⟨rfl, hb⟩
            have O5 : Hid (OwnRl u1 w1.heap.size (.slice p9 OUT.length c9) OUT) := own_keep O2.out hb
            have B5 : Hid (Below w1.heap.size w1 u1) := below_then B2.out hb
            have YH5 : Hid (u1.heap[yb]? = some (.cells #[.int .i64 ry, .int .i64 rt, .int .i64 rp, .int .i64 rf, .bool rw, .bool ru, .bool rx, .bool rg, .bool rd] 68 (0, 0))) := (hb.block _ lyc).trans YH.out
            have XH5 : Hid (u1.heap[w.heap.size]? = some (.cells #[.int .i64 xy, .int .i64 xt, .int .i64 xp, .int .i64 xf, .bool xw, .bool xu, .bool xx, .bool xg, .bool xd] 68 (0, 0))) := (hb.block _ lxc).trans XH.out
            have lyu : yb < u1.heap.size := Nat.lt_of_lt_of_le lyc hb.size
            clear hb O2 B2 YH XH xc0 xc1 xc2 xc3 xc4 xc5 xc6 xc7 xc8 yc0 yc1 yc2 yc3 yc4 yc5 yc6 yc7 yc8 lyc lxc
            have XH := XH5
            have YH := YH5
            have O2 := O5
            have B2 := B5
            have lyc := lyu
            clear XH5 YH5 O5 B5 lyu
            have xc0 : u1.cell? ⟨w.heap.size, 0, none⟩ = some (.int .i64 xy) := cells9 XH.out 0 _ rfl
            have xc1 : u1.cell? ⟨w.heap.size, 1, none⟩ = some (.int .i64 xt) := cells9 XH.out 1 _ rfl
            have xc2 : u1.cell? ⟨w.heap.size, 2, none⟩ = some (.int .i64 xp) := cells9 XH.out 2 _ rfl
            have xc3 : u1.cell? ⟨w.heap.size, 3, none⟩ = some (.int .i64 xf) := cells9 XH.out 3 _ rfl
            have xc4 : u1.cell? ⟨w.heap.size, 4, none⟩ = some (.bool xw) := cells9 XH.out 4 _ rfl
            have xc5 : u1.cell? ⟨w.heap.size, 5, none⟩ = some (.bool xu) := cells9 XH.out 5 _ rfl
            have xc6 : u1.cell? ⟨w.heap.size, 6, none⟩ = some (.bool xx) := cells9 XH.out 6 _ rfl
            have xc7 : u1.cell? ⟨w.heap.size, 7, none⟩ = some (.bool xg) := cells9 XH.out 7 _ rfl
            have xc8 : u1.cell? ⟨w.heap.size, 8, none⟩ = some (.bool xd) := cells9 XH.out 8 _ rfl
            have yc0 : u1.cell? ⟨yb, 0, none⟩ = some (.int .i64 ry) := cells9 YH.out 0 _ rfl
            have yc1 : u1.cell? ⟨yb, 1, none⟩ = some (.int .i64 rt) := cells9 YH.out 1 _ rfl
            have yc2 : u1.cell? ⟨yb, 2, none⟩ = some (.int .i64 rp) := cells9 YH.out 2 _ rfl
            have yc3 : u1.cell? ⟨yb, 3, none⟩ = some (.int .i64 rf) := cells9 YH.out 3 _ rfl
            have yc4 : u1.cell? ⟨yb, 4, none⟩ = some (.bool rw) := cells9 YH.out 4 _ rfl
            have yc5 : u1.cell? ⟨yb, 5, none⟩ = some (.bool ru) := cells9 YH.out 5 _ rfl
            have yc6 : u1.cell? ⟨yb, 6, none⟩ = some (.bool rx) := cells9 YH.out 6 _ rfl
            have yc7 : u1.cell? ⟨yb, 7, none⟩ = some (.bool rg) := cells9 YH.out 7 _ rfl
            have yc8 : u1.cell? ⟨yb, 8, none⟩ = some (.bool rd) := cells9 YH.out 8 _ rfl
            obtain ⟨bb, hbb⟩ : ∃ bb, Rl.before ⟨xy, xt, xp, xf, xw, xu, xx, xg, xd⟩ ⟨ry, rt, rp, rf, rw, ru, rx, rg, rd⟩ = bb := ⟨_, rfl⟩
            rw [hbb] at N2 ⊢
            clear hbb
            cases bb
            · have N2 : Hid (fillS (L.take (m + 1)) ⟨xy, xt, xp, xf, xw, xu, xx, xg, xd⟩ = (OUT ++ [⟨ry, rt, rp, rf, rw, ru, rx, rg, rd⟩], false)) := N2.out
              have OW1 : Hid ((u1.alloc (.cells #[.int .i64 ry, .int .i64 rt, .int .i64 rp, .int .i64 rf, .bool rw, .bool ru, .bool rx, .bool rg, .bool rd] 68)).ownsRow w1.heap.size 68 9 (.slice p9 nO c9) nO (OUT.flatMap Rl.enc)) := own_keep (by have := O2.out; unfold OwnRl at this; rw [HO.out] at this; exact this) (Go.Joins.below_alloc1 _ _)
              have NW1 : Hid (∀ j x, ([.int .i64 ry, .int .i64 rt, .int .i64 rp, .int .i64 rf, .bool rw, .bool ru, .bool rx, .bool rg, .bool rd] : List Value)[j]? = some x → (u1.alloc (.cells #[.int .i64 ry, .int .i64 rt, .int .i64 rp, .int .i64 rf, .bool rw, .bool ru, .bool rx, .bool rg, .bool rd] 68)).cell? ((⟨u1.heap.size, 0, none⟩ : Addr).add j) = some x) := news_cells1 u1 #[.int .i64 ry, .int .i64 rt, .int .i64 rp, .int .i64 rf, .bool rw, .bool ru, .bool rx, .bool rg, .bool rd] 68
              have ON1 : Hid (∀ x ∈ ([.int .i64 ry, .int .i64 rt, .int .i64 rp, .int .i64 rf, .bool rw, .bool ru, .bool rx, .bool rg, .bool rd] : List Value), x.oneCell' = true) := by show ∀ x ∈ ([.int .i64 ry, .int .i64 rt, .int .i64 rp, .int .i64 rf, .bool rw, .bool ru, .bool rx, .bool rg, .bool rd] : List Value), x.oneCell' = true; simp [Value.oneCell']
              have BA1 : Hid (Below w1.heap.size w1 (u1.alloc (.cells #[.int .i64 ry, .int .i64 rt, .int .i64 rp, .int .i64 rf, .bool rw, .bool ru, .bool rx, .bool rg, .bool rd] 68))) := below_new B2.out _
              have HZ1 : Hid (w1.heap.size ≤ (u1.alloc (.cells #[.int .i64 ry, .int .i64 rt, .int .i64 rp, .int .i64 rf, .bool rw, .bool ru, .bool rx, .bool rg, .bool rd] 68)).heap.size) := BA1.out.size
              have MX1 : Hid (nO + 1 ≤ maxLen) := by show _ ≤ _; unfold maxLen; omega
              have BY1 : Hid ((nO + 1) * 40 ≤ 140737488355328) := by show _ ≤ _; omega
              clear NX O2 B2
              go_wp2_with (at_builtin; refine wpList_append_own _ rfl _ _ 59 rfl w1.heap.size 68 i0 zref 9 40 Try.underlying59 hi hz0 hz1 hz2 rfl (by decide) (.slice p9 nO c9) nO (OUT.flatMap Rl.enc) rfl OW1.out ⟨u1.heap.size, 0, none⟩ 1 1 ([.int .i64 ry, .int .i64 rt, .int .i64 rp, .int .i64 rf, .bool rw, .bool ru, .bool rx, .bool rg, .bool rd] : List Value) rfl rfl NW1.out ON1.out MX1.out BY1.out HZ1.out ?_; intro v1 a1 hown hg hnil; have O1 : Hid (OwnRl a1 w1.heap.size v1 (OUT ++ [⟨ry, rt, rp, rf, rw, ru, rx, rg, rd⟩])) := (OwnRl.next (by rw [HO.out]; exact hown)); have B1 : Hid (Below w1.heap.size w1 a1) := (below_grown (base := 0) BA1.out OW1.out hg); clear hown hg hnil OW1 NW1 ON1 HZ1 MX1 BY1 BA1)
              go_wp2_with fail
              go_roundw
              case rel => exact ⟨m + 1, _, by omega, by go_num, rfl, (by show OwnRl _ _ _ _; rw [N2.out]; exact O1.out), (by show _ = _; rw [N2.out]), B1⟩
              case measure => simp [intOf]; omega
            · have N2 : Hid (fillS (L.take (m + 1)) ⟨xy, xt, xp, xf, xw, xu, xx, xg, xd⟩ = (OUT ++ [⟨xy, xt, xp, xf, xw, xu, xx, xg, xd⟩] ++ [⟨ry, rt, rp, rf, rw, ru, rx, rg, rd⟩], true)) := N2.out
              have OW1 : Hid ((u1.alloc (.cells #[.int .i64 xy, .int .i64 xt, .int .i64 xp, .int .i64 xf, .bool xw, .bool xu, .bool xx, .bool xg, .bool xd] 68)).ownsRow w1.heap.size 68 9 (.slice p9 nO c9) nO (OUT.flatMap Rl.enc)) := own_keep (by have := O2.out; unfold OwnRl at this; rw [HO.out] at this; exact this) (Go.Joins.below_alloc1 _ _)
              have NW1 : Hid (∀ j x, ([.int .i64 xy, .int .i64 xt, .int .i64 xp, .int .i64 xf, .bool xw, .bool xu, .bool xx, .bool xg, .bool xd] : List Value)[j]? = some x → (u1.alloc (.cells #[.int .i64 xy, .int .i64 xt, .int .i64 xp, .int .i64 xf, .bool xw, .bool xu, .bool xx, .bool xg, .bool xd] 68)).cell? ((⟨u1.heap.size, 0, none⟩ : Addr).add j) = some x) := news_cells1 u1 #[.int .i64 xy, .int .i64 xt, .int .i64 xp, .int .i64 xf, .bool xw, .bool xu, .bool xx, .bool xg, .bool xd] 68
              have ON1 : Hid (∀ x ∈ ([.int .i64 xy, .int .i64 xt, .int .i64 xp, .int .i64 xf, .bool xw, .bool xu, .bool xx, .bool xg, .bool xd] : List Value), x.oneCell' = true) := by show ∀ x ∈ ([.int .i64 xy, .int .i64 xt, .int .i64 xp, .int .i64 xf, .bool xw, .bool xu, .bool xx, .bool xg, .bool xd] : List Value), x.oneCell' = true; simp [Value.oneCell']
              have BA1 : Hid (Below w1.heap.size w1 (u1.alloc (.cells #[.int .i64 xy, .int .i64 xt, .int .i64 xp, .int .i64 xf, .bool xw, .bool xu, .bool xx, .bool xg, .bool xd] 68))) := below_new B2.out _
              have HZ1 : Hid (w1.heap.size ≤ (u1.alloc (.cells #[.int .i64 xy, .int .i64 xt, .int .i64 xp, .int .i64 xf, .bool xw, .bool xu, .bool xx, .bool xg, .bool xd] 68)).heap.size) := BA1.out.size
              have MX1 : Hid (nO + 1 ≤ maxLen) := by show _ ≤ _; unfold maxLen; omega
              have BY1 : Hid ((nO + 1) * 40 ≤ 140737488355328) := by show _ ≤ _; omega
              have ONR : Hid (∀ x ∈ ([.int .i64 ry, .int .i64 rt, .int .i64 rp, .int .i64 rf, .bool rw, .bool ru, .bool rx, .bool rg, .bool rd] : List Value), x.oneCell' = true) := by show ∀ x ∈ ([.int .i64 ry, .int .i64 rt, .int .i64 rp, .int .i64 rf, .bool rw, .bool ru, .bool rx, .bool rg, .bool rd] : List Value), x.oneCell' = true; simp [Value.oneCell']
              have MXR : Hid (nO + 1 + 1 ≤ maxLen) := by show _ ≤ _; unfold maxLen; omega
              have BYR : Hid ((nO + 1 + 1) * 40 ≤ 140737488355328) := by show _ ≤ _; omega
              have YA : Hid ((u1.alloc (.cells #[.int .i64 xy, .int .i64 xt, .int .i64 xp, .int .i64 xf, .bool xw, .bool xu, .bool xx, .bool xg, .bool xd] 68)).heap[yb]? = some (.cells #[.int .i64 ry, .int .i64 rt, .int .i64 rp, .int .i64 rf, .bool rw, .bool ru, .bool rx, .bool rg, .bool rd] 68 (0, 0))) := ((Go.Joins.below_alloc1 u1 _).block _ lyc).trans YH.out
              clear NX O2 B2
              go_wp2_with (first | (at_builtin; refine wpList_append_own _ rfl _ _ 59 rfl w1.heap.size 68 i0 zref 9 40 Try.underlying59 hi hz0 hz1 hz2 rfl (by decide) (.slice p9 nO c9) nO (OUT.flatMap Rl.enc) rfl OW1.out ⟨u1.heap.size, 0, none⟩ 1 1 ([.int .i64 xy, .int .i64 xt, .int .i64 xp, .int .i64 xf, .bool xw, .bool xu, .bool xx, .bool xg, .bool xd] : List Value) rfl rfl NW1.out ON1.out MX1.out BY1.out HZ1.out ?_; intro v1 a1 hown hg hnil; have O1 : Hid (OwnRl a1 w1.heap.size v1 (OUT ++ [⟨xy, xt, xp, xf, xw, xu, xx, xg, xd⟩])) := (OwnRl.next (by rw [HO.out]; exact hown)); have B1 : Hid (Below w1.heap.size w1 a1) := (below_grown (base := 0) BA1.out OW1.out hg); have YH2 : Hid (a1.heap[yb]? = some (.cells #[.int .i64 ry, .int .i64 rt, .int .i64 rp, .int .i64 rf, .bool rw, .bool ru, .bool rx, .bool rg, .bool rd] 68 (0, 0))) := (yh_next BA1.out OW1.out hg YA.out lyw); clear hown hg hnil OW1 NW1 ON1 HZ1 MX1 BY1 BA1 xc0 xc1 xc2 xc3 xc4 xc5 xc6 xc7 xc8 yc0 yc1 yc2 yc3 yc4 yc5 yc6 yc7 yc8; have yc0 : a1.cell? ⟨yb, 0, none⟩ = some (.int .i64 ry) := (cells9 YH2.out 0 _ rfl); have yc1 : a1.cell? ⟨yb, 1, none⟩ = some (.int .i64 rt) := (cells9 YH2.out 1 _ rfl); have yc2 : a1.cell? ⟨yb, 2, none⟩ = some (.int .i64 rp) := (cells9 YH2.out 2 _ rfl); have yc3 : a1.cell? ⟨yb, 3, none⟩ = some (.int .i64 rf) := (cells9 YH2.out 3 _ rfl); have yc4 : a1.cell? ⟨yb, 4, none⟩ = some (.bool rw) := (cells9 YH2.out 4 _ rfl); have yc5 : a1.cell? ⟨yb, 5, none⟩ = some (.bool ru) := (cells9 YH2.out 5 _ rfl); have yc6 : a1.cell? ⟨yb, 6, none⟩ = some (.bool rx) := (cells9 YH2.out 6 _ rfl); have yc7 : a1.cell? ⟨yb, 7, none⟩ = some (.bool rg) := (cells9 YH2.out 7 _ rfl); have yc8 : a1.cell? ⟨yb, 8, none⟩ = some (.bool rd) := (cells9 YH2.out 8 _ rfl); have OW2 : Hid ((a1.alloc (.cells #[.int .i64 ry, .int .i64 rt, .int .i64 rp, .int .i64 rf, .bool rw, .bool ru, .bool rx, .bool rg, .bool rd] 68)).ownsRow w1.heap.size 68 9 v1 (nO + 1) ((OUT ++ [(⟨xy, xt, xp, xf, xw, xu, xx, xg, xd⟩ : Rl)]).flatMap Rl.enc)) := (own_keep (by have := O1.out; unfold OwnRl at this; rw [List.length_append, HO.out] at this; exact this) (Go.Joins.below_alloc1 _ _)); have NW2 : Hid (∀ j x, ([.int .i64 ry, .int .i64 rt, .int .i64 rp, .int .i64 rf, .bool rw, .bool ru, .bool rx, .bool rg, .bool rd] : List Value)[j]? = some x → (a1.alloc (.cells #[.int .i64 ry, .int .i64 rt, .int .i64 rp, .int .i64 rf, .bool rw, .bool ru, .bool rx, .bool rg, .bool rd] 68)).cell? ((⟨a1.heap.size, 0, none⟩ : Addr).add j) = some x) := (news_cells1 a1 #[.int .i64 ry, .int .i64 rt, .int .i64 rp, .int .i64 rf, .bool rw, .bool ru, .bool rx, .bool rg, .bool rd] 68); have ON2 : Hid (∀ x ∈ ([.int .i64 ry, .int .i64 rt, .int .i64 rp, .int .i64 rf, .bool rw, .bool ru, .bool rx, .bool rg, .bool rd] : List Value), x.oneCell' = true) := ONR; have BA2 : Hid (Below w1.heap.size w1 (a1.alloc (.cells #[.int .i64 ry, .int .i64 rt, .int .i64 rp, .int .i64 rf, .bool rw, .bool ru, .bool rx, .bool rg, .bool rd] 68))) := (below_new B1.out _); have HZ2 : Hid (w1.heap.size ≤ (a1.alloc (.cells #[.int .i64 ry, .int .i64 rt, .int .i64 rp, .int .i64 rf, .bool rw, .bool ru, .bool rx, .bool rg, .bool rd] 68)).heap.size) := BA2.out.size; have MX2 : Hid (nO + 1 + 1 ≤ maxLen) := MXR; have BY2 : Hid ((nO + 1 + 1) * 40 ≤ 140737488355328) := BYR) | (at_builtin; refine wpList_append_own _ rfl _ _ 59 rfl w1.heap.size 68 i0 zref 9 40 Try.underlying59 hi hz0 hz1 hz2 rfl (by decide) v1 (nO + 1) ((OUT ++ [(⟨xy, xt, xp, xf, xw, xu, xx, xg, xd⟩ : Rl)]).flatMap Rl.enc) rfl OW2.out ⟨a1.heap.size, 0, none⟩ 1 1 ([.int .i64 ry, .int .i64 rt, .int .i64 rp, .int .i64 rf, .bool rw, .bool ru, .bool rx, .bool rg, .bool rd] : List Value) rfl rfl NW2.out ON2.out MX2.out BY2.out HZ2.out ?_; intro v2 a2 hown hg hnil; have O3 : Hid (OwnRl a2 w1.heap.size v2 (OUT ++ [⟨xy, xt, xp, xf, xw, xu, xx, xg, xd⟩] ++ [⟨ry, rt, rp, rf, rw, ru, rx, rg, rd⟩])) := (OwnRl.next (by rw [List.length_append, HO.out]; exact hown)); have B3 : Hid (Below w1.heap.size w1 a2) := (below_grown (base := 0) BA2.out OW2.out hg); clear hown hg hnil OW2 NW2 ON2 HZ2 MX2 BY2 BA2))
              go_wp2_with fail
              go_roundw
              case rel => exact ⟨m + 1, _, by omega, by go_num, rfl, (by show OwnRl _ _ _ _; rw [N2.out]; exact O3.out), (by show _ = _; rw [N2.out]), B3⟩
              case measure => simp [intOf]; omega
          · have N2 : Hid (fillS (L.take (m + 1)) ⟨xy, xt, xp, xf, xw, xu, xx, xg, xd⟩ = (OUT ++ [⟨ry, rt, rp, rf, rw, ru, rx, rg, rd⟩], true)) := N2.out
            have OW1 : Hid ((wc.alloc (.cells #[.int .i64 ry, .int .i64 rt, .int .i64 rp, .int .i64 rf, .bool rw, .bool ru, .bool rx, .bool rg, .bool rd] 68)).ownsRow w1.heap.size 68 9 (.slice p9 nO c9) nO (OUT.flatMap Rl.enc)) := own_keep (by have := O2.out; unfold OwnRl at this; rw [HO.out] at this; exact this) (Go.Joins.below_alloc1 _ _)
            have NW1 : Hid (∀ j x, ([.int .i64 ry, .int .i64 rt, .int .i64 rp, .int .i64 rf, .bool rw, .bool ru, .bool rx, .bool rg, .bool rd] : List Value)[j]? = some x → (wc.alloc (.cells #[.int .i64 ry, .int .i64 rt, .int .i64 rp, .int .i64 rf, .bool rw, .bool ru, .bool rx, .bool rg, .bool rd] 68)).cell? ((⟨wc.heap.size, 0, none⟩ : Addr).add j) = some x) := news_cells1 wc #[.int .i64 ry, .int .i64 rt, .int .i64 rp, .int .i64 rf, .bool rw, .bool ru, .bool rx, .bool rg, .bool rd] 68
            have ON1 : Hid (∀ x ∈ ([.int .i64 ry, .int .i64 rt, .int .i64 rp, .int .i64 rf, .bool rw, .bool ru, .bool rx, .bool rg, .bool rd] : List Value), x.oneCell' = true) := by show ∀ x ∈ ([.int .i64 ry, .int .i64 rt, .int .i64 rp, .int .i64 rf, .bool rw, .bool ru, .bool rx, .bool rg, .bool rd] : List Value), x.oneCell' = true; simp [Value.oneCell']
            have BA1 : Hid (Below w1.heap.size w1 (wc.alloc (.cells #[.int .i64 ry, .int .i64 rt, .int .i64 rp, .int .i64 rf, .bool rw, .bool ru, .bool rx, .bool rg, .bool rd] 68))) := below_new B2.out _
            have HZ1 : Hid (w1.heap.size ≤ (wc.alloc (.cells #[.int .i64 ry, .int .i64 rt, .int .i64 rp, .int .i64 rf, .bool rw, .bool ru, .bool rx, .bool rg, .bool rd] 68)).heap.size) := BA1.out.size
            have MX1 : Hid (nO + 1 ≤ maxLen) := by show _ ≤ _; unfold maxLen; omega
            have BY1 : Hid ((nO + 1) * 40 ≤ 140737488355328) := by show _ ≤ _; omega
            clear NX O2 B2
            go_wp2_with (at_builtin; refine wpList_append_own _ rfl _ _ 59 rfl w1.heap.size 68 i0 zref 9 40 Try.underlying59 hi hz0 hz1 hz2 rfl (by decide) (.slice p9 nO c9) nO (OUT.flatMap Rl.enc) rfl OW1.out ⟨wc.heap.size, 0, none⟩ 1 1 ([.int .i64 ry, .int .i64 rt, .int .i64 rp, .int .i64 rf, .bool rw, .bool ru, .bool rx, .bool rg, .bool rd] : List Value) rfl rfl NW1.out ON1.out MX1.out BY1.out HZ1.out ?_; intro v1 a1 hown hg hnil; have O1 : Hid (OwnRl a1 w1.heap.size v1 (OUT ++ [⟨ry, rt, rp, rf, rw, ru, rx, rg, rd⟩])) := (OwnRl.next (by rw [HO.out]; exact hown)); have B1 : Hid (Below w1.heap.size w1 a1) := (below_grown (base := 0) BA1.out OW1.out hg); clear hown hg hnil OW1 NW1 ON1 HZ1 MX1 BY1 BA1)
            go_wp2_with fail
            go_roundw
            case rel => exact ⟨m + 1, _, by omega, by go_num, rfl, (by show OwnRl _ _ _ _; rw [N2.out]; exact O1.out), (by show _ = _; rw [N2.out]), B1⟩
            case measure => simp [intOf]; omega
        · have N2 : Hid (fillS (L.take (m + 1)) ⟨xy, xt, xp, xf, xw, xu, xx, xg, xd⟩ = (OUT, db')) := N2.out
          go_wp2_with fail
          go_roundw
          case rel => exact ⟨m + 1, db', by omega, by go_num, rfl, (by show OwnRl _ _ _ _; rw [N2.out, ← HO.out]; exact O2.out), (by show _ = _; rw [N2.out]), B2⟩
          case measure => simp [intOf]; omega
    · have hd : decide ((m : Int) < (n : Int)) = false := by simp; omega
      obtain rfl : m = n := by omega
      generalize fillS (L.take m) ⟨xy, xt, xp, xf, xw, xu, xx, xg, xd⟩ = S at O LO HD RR1 RR2 ⊢
      obtain ⟨OUT, db'⟩ := S
      simp only at O LO HD RR1 RR2 ⊢
      have hdb : db' = db := HD.out
      subst hdb
      obtain ⟨nO, hnO⟩ : ∃ x, OUT.length = x := ⟨_, rfl⟩
      have HO : Hid (OUT.length = nO) := hnO
      have lO : nO ≤ 200 := by rw [← hnO]; have := LO.out; omega
      rw [hnO]
      clear hnO LO HD FCA BCA HI
      cases db'
      · have hR : RR = OUT ++ [⟨xy, xt, xp, xf, xw, xu, xx, xg, xd⟩] := RR2.out rfl
        clear RR1 RR2
        have OW1 : Hid ((wr.alloc (.cells #[.int .i64 xy, .int .i64 xt, .int .i64 xp, .int .i64 xf, .bool xw, .bool xu, .bool xx, .bool xg, .bool xd] 68)).ownsRow w1.heap.size 68 9 (.slice p9 nO c9) nO (OUT.flatMap Rl.enc)) := own_keep (by have := O.out; unfold OwnRl at this; rw [HO.out] at this; exact this) (Go.Joins.below_alloc1 _ _)
        have NW1 : Hid (∀ j x, ([.int .i64 xy, .int .i64 xt, .int .i64 xp, .int .i64 xf, .bool xw, .bool xu, .bool xx, .bool xg, .bool xd] : List Value)[j]? = some x → (wr.alloc (.cells #[.int .i64 xy, .int .i64 xt, .int .i64 xp, .int .i64 xf, .bool xw, .bool xu, .bool xx, .bool xg, .bool xd] 68)).cell? ((⟨wr.heap.size, 0, none⟩ : Addr).add j) = some x) := news_cells1 wr #[.int .i64 xy, .int .i64 xt, .int .i64 xp, .int .i64 xf, .bool xw, .bool xu, .bool xx, .bool xg, .bool xd] 68
        have ON1 : Hid (∀ x ∈ ([.int .i64 xy, .int .i64 xt, .int .i64 xp, .int .i64 xf, .bool xw, .bool xu, .bool xx, .bool xg, .bool xd] : List Value), x.oneCell' = true) := by show ∀ x ∈ ([.int .i64 xy, .int .i64 xt, .int .i64 xp, .int .i64 xf, .bool xw, .bool xu, .bool xx, .bool xg, .bool xd] : List Value), x.oneCell' = true; simp [Value.oneCell']
        have BA1 : Hid (Below w1.heap.size w1 (wr.alloc (.cells #[.int .i64 xy, .int .i64 xt, .int .i64 xp, .int .i64 xf, .bool xw, .bool xu, .bool xx, .bool xg, .bool xd] 68))) := below_new Bl.out _
        have HZ1 : Hid (w1.heap.size ≤ (wr.alloc (.cells #[.int .i64 xy, .int .i64 xt, .int .i64 xp, .int .i64 xf, .bool xw, .bool xu, .bool xx, .bool xg, .bool xd] 68)).heap.size) := BA1.out.size
        have MX1 : Hid (nO + 1 ≤ maxLen) := by show _ ≤ _; unfold maxLen; omega
        have BY1 : Hid ((nO + 1) * 40 ≤ 140737488355328) := by show _ ≤ _; omega
        clear O
        go_wp2_with (at_builtin; refine wpList_append_own _ rfl _ _ 59 rfl w1.heap.size 68 i0 zref 9 40 Try.underlying59 hi hz0 hz1 hz2 rfl (by decide) (.slice p9 nO c9) nO (OUT.flatMap Rl.enc) rfl OW1.out ⟨wr.heap.size, 0, none⟩ 1 1 ([.int .i64 xy, .int .i64 xt, .int .i64 xp, .int .i64 xf, .bool xw, .bool xu, .bool xx, .bool xg, .bool xd] : List Value) rfl rfl NW1.out ON1.out MX1.out BY1.out HZ1.out ?_; intro v1 a1 hown hg hnil; have O1 : Hid (OwnRl a1 w1.heap.size v1 (OUT ++ [⟨xy, xt, xp, xf, xw, xu, xx, xg, xd⟩])) := (OwnRl.next (by rw [HO.out]; exact hown)); have B1 : Hid (Below w1.heap.size w1 a1) := (below_grown (base := 0) BA1.out OW1.out hg); clear hown hg hnil OW1 NW1 ON1 HZ1 MX1 BY1 BA1)
        go_wp2_with fail
        go_ret
        rw [hR]
        obtain ⟨p2, c2, rfl, _, I2⟩ := ownrl_read O1.out
        exact ⟨_, _, rfl, I2.weak (by rw [E1.out]; omega), below_then BW.out B1.out⟩
      · have hR : RR = OUT := RR1.out rfl
        clear RR1 RR2
        go_wp2_with fail
        go_ret
        rw [hR]
        obtain ⟨p2, c2, hv2, _, I2⟩ := ownrl_read O.out
        rw [HO.out] at hv2 ⊢
        cases hv2
        exact ⟨_, _, rfl, I2.weak (by rw [E1.out]; omega), below_then BW.out Bl.out⟩
end Go.Proofs.Ytihedjlcjkbjfaa
