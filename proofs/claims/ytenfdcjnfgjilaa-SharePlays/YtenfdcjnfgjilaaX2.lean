/- Grants: the document's put. -/
import Derived.Test.YtenfdcjnfgjilaaX0
import Derived.Deep.DeepCutAuto
namespace Go.Proofs.Ytenfdcjnfgjilaa
open Go.ChangeShapes Go.WideShapes Go.ChangeAt Go.RowKit Go.Maps
set_option linter.unusedSimpArgs false
set_option linter.unusedVariables false
set_option maxRecDepth 8000
set_option maxRecDepth 8000
set_option maxRecDepth 8000

theorem puts_next (L : List Rq) (x : Rq) (m : Nat) (h : m < L.length) : putS (L.take (m + 1)) x = pstep x (putS (L.take m) x) (L.getD m Rq.zero) := by
  rw [takeQ L m h, put_snoc]
theorem puts_len (x : Rq) : ∀ (L : List Rq) (s : List Rq × Bool), (L.foldl (pstep x) s).1.length ≤ s.1.length + 2 * L.length
  | [], s => by simp
  | r :: L, s => by
    rw [List.foldl_cons]
    refine Nat.le_trans (puts_len x L _) ?_
    unfold pstep
    split
    · split
      · simp; omega
      · simp; omega
    · split
      · simp; omega
      · simp; omega
theorem putS_len (L : List Rq) (x : Rq) (m : Nat) : (putS (L.take m) x).1.length ≤ 2 * m := by
  have := puts_len x (L.take m) ([], false)
  have h : (L.take m).length ≤ m := by rw [List.length_take]; omega
  unfold putS
  simp at this
  omega
theorem below_grown' {w U a0 : World} {v : Value} {n e s : Nat} {xs : List Value} (B : Below w.heap.size w U) (O : U.ownsRow w.heap.size e s v n xs) (hg : U.grownBy a0 v.ownBlock) : Below w.heap.size w a0 := below_grown B O hg
set_option maxHeartbeats 16000000 in
theorem rput_any (base : Nat) (p : Option Addr) (c : Nat) (L : List Rq) (hL : L.length ≤ 256) (x : Rq) (w : World) (h : IsRq w base p L) :
    Calls Try.prog 31 #[.slice p L.length c, x.val] w fun e w' => ∃ p' c', e = .returned (.slice p' (putQ L x).length c') ∧ IsRq w' w.heap.size p' (putQ L x) ∧ Below w.heap.size w w' := by
  obtain ⟨i0, hi, hz0, hz1, hz2⟩ := info5 rg_info5
  obtain ⟨xi, xf, xp, xd, xw, xt, xa⟩ := x
  have HI : Hid (IsRq (w.alloc (.cells #[.int .i64 xi, .int .i64 xf, .int .i64 xp, .int .i64 xd, .bool xw, .bool xt, .int .i64 xa] 41)) base p L) := h.below (Go.Joins.below_alloc1 _ _)
  have RES : Hid (putS (L.take L.length) ⟨xi, xf, xp, xd, xw, xt, xa⟩ = putS L ⟨xi, xf, xp, xd, xw, xt, xa⟩) := by show _ = _; rw [List.take_length]
  have RR1 : Hid ((putS L ⟨xi, xf, xp, xd, xw, xt, xa⟩).2 = true → putQ L ⟨xi, xf, xp, xd, xw, xt, xa⟩ = (putS L ⟨xi, xf, xp, xd, xw, xt, xa⟩).1) := fun q => by unfold putQ; rw [if_pos q]
  have RR2 : Hid ((putS L ⟨xi, xf, xp, xd, xw, xt, xa⟩).2 = false → putQ L ⟨xi, xf, xp, xd, xw, xt, xa⟩ = (putS L ⟨xi, xf, xp, xd, xw, xt, xa⟩).1 ++ [⟨xi, xf, xp, xd, xw, xt, xa⟩]) := fun q => by unfold putQ; rw [if_neg (by rw [q]; simp)]
  generalize putQ L ⟨xi, xf, xp, xd, xw, xt, xa⟩ = RR at RR1 RR2 ⊢
  rw [← RES.out] at RR1 RR2
  clear h RES
  obtain ⟨n, hn⟩ : ∃ n, L.length = n := ⟨_, rfl⟩
  have HN : Hid (L.length = n) := hn
  rw [hn] at hL RR1 RR2 ⊢
  clear hn
  go_enter Try.func31, Try.ntmps31
  go_wp2_with fail
  have E1 : Hid ((w.alloc (.cells #[.int .i64 xi, .int .i64 xf, .int .i64 xp, .int .i64 xd, .bool xw, .bool xt, .int .i64 xa] 41)).heap.size = w.heap.size + 1) := World.size_alloc _ _
  have XH0 : Hid ((w.alloc (.cells #[.int .i64 xi, .int .i64 xf, .int .i64 xp, .int .i64 xd, .bool xw, .bool xt, .int .i64 xa] 41)).heap[w.heap.size]? = some (.cells #[.int .i64 xi, .int .i64 xf, .int .i64 xp, .int .i64 xd, .bool xw, .bool xt, .int .i64 xa] 41 (0, 0))) := own1 w _
  have BW : Hid (Below w.heap.size w (w.alloc (.cells #[.int .i64 xi, .int .i64 xf, .int .i64 xp, .int .i64 xd, .bool xw, .bool xt, .int .i64 xa] 41))) := Go.Joins.below_alloc1 _ _
  generalize (w.alloc (.cells #[.int .i64 xi, .int .i64 xf, .int .i64 xp, .int .i64 xd, .bool xw, .bool xt, .int .i64 xa] 41)) = w1 at E1 XH0 BW HI ⊢
  go_loopw [5, 6, 12] (fun v dn y W => ∃ (m : Nat) (db : Bool), m ≤ n ∧ y = .int .i64 m ∧ dn = .bool db ∧ Hid (OwnRq W w1.heap.size v (putS (L.take m) ⟨xi, xf, xp, xd, xw, xt, xa⟩).1) ∧ Hid ((putS (L.take m) ⟨xi, xf, xp, xd, xw, xt, xa⟩).2 = db) ∧ Hid (Below w1.heap.size w1 W)) (fun _ _ y _ => n - (intOf y).toNat)
  case atStart => exact ⟨0, false, by omega, rfl, rfl, (by have := startrq w1; rw [E1.out] at this ⊢; exact this), rfl, Go.Joins.below_alloc1 _ _⟩
  case round =>
    obtain ⟨m, db, hm, rfl, rfl, O, HD, Bl⟩ := hrel
    obtain ⟨p9, c9, hv9, _, _⟩ := ownrq_read O.out
    subst hv9
    have lxw : w.heap.size < wr.heap.size := Nat.lt_of_lt_of_le (by rw [E1.out]; omega) Bl.out.size
    have XH : Hid (wr.heap[w.heap.size]? = some (.cells #[.int .i64 xi, .int .i64 xf, .int .i64 xp, .int .i64 xd, .bool xw, .bool xt, .int .i64 xa] 41 (0, 0))) := (Bl.out.block _ (by rw [E1.out]; omega)).trans XH0.out
    have LO : Hid ((putS (L.take m) ⟨xi, xf, xp, xd, xw, xt, xa⟩).1.length ≤ 2 * m) := putS_len L ⟨xi, xf, xp, xd, xw, xt, xa⟩ m
    by_cases hlt : m < n
    · have hd : decide ((m : Int) < (n : Int)) = true := by simp; omega
      have NX : Hid (putS (L.take (m + 1)) ⟨xi, xf, xp, xd, xw, xt, xa⟩ = pstep ⟨xi, xf, xp, xd, xw, xt, xa⟩ (putS (L.take m) ⟨xi, xf, xp, xd, xw, xt, xa⟩) (L.getD m Rq.zero)) := puts_next L ⟨xi, xf, xp, xd, xw, xt, xa⟩ m (by rw [HN.out]; exact hlt)
      obtain ⟨g, rfl, g1, g2, gc⟩ := (HI.out.below Bl.out) m (by rw [HN.out]; exact hlt)
      generalize L.getD m Rq.zero = r at gc NX
      obtain ⟨qi, qf, qp, qd, qw, qt, qa⟩ := r
      have y0 : wr.cell? ⟨g, m * 7, none⟩ = some (.int .i64 qi) := gc 0 _ rfl
      have y1 : wr.cell? ⟨g, m * 7 + 1, none⟩ = some (.int .i64 qf) := gc 1 _ rfl
      have y2 : wr.cell? ⟨g, m * 7 + 2, none⟩ = some (.int .i64 qp) := gc 2 _ rfl
      have y3 : wr.cell? ⟨g, m * 7 + 3, none⟩ = some (.int .i64 qd) := gc 3 _ rfl
      have y4 : wr.cell? ⟨g, m * 7 + 4, none⟩ = some (.bool qw) := gc 4 _ rfl
      have y5 : wr.cell? ⟨g, m * 7 + 5, none⟩ = some (.bool qt) := gc 5 _ rfl
      have y6 : wr.cell? ⟨g, m * 7 + 6, none⟩ = some (.int .i64 qa) := gc 6 _ rfl
      clear gc RR1 RR2
      generalize putS (L.take m) ⟨xi, xf, xp, xd, xw, xt, xa⟩ = S at O LO NX HD ⊢
      obtain ⟨OUT, db'⟩ := S
      simp only at O LO HD ⊢
      have hdb : db' = db := HD.out
      subst hdb
      obtain ⟨nO, hnO⟩ : ∃ x, OUT.length = x := ⟨_, rfl⟩
      have HO : Hid (OUT.length = nO) := hnO
      have lO : nO ≤ 512 := by rw [← hnO]; have := LO.out; omega
      rw [hnO]
      clear hnO LO HD
      have mI : (m : Int) < (n : Int) := by omega
      have mn : (n : Int) ≤ 256 := by omega
      go_upto_region 6 with fail
      have lyw : ∀ j, (Value.slice p9 nO c9).ownBlock = some j → j ≠ wr.heap.size := fun j hj => by have := own_lt O.out j (by rw [HO.out]; exact hj); omega
      have O2 : Hid (OwnRq (wr.alloc (.cells #[.int .i64 qi, .int .i64 qf, .int .i64 qp, .int .i64 qd, .bool qw, .bool qt, .int .i64 qa] 41)) w1.heap.size (.slice p9 OUT.length c9) OUT) := own_keep O.out (Go.Joins.below_alloc1 _ _)
      have B2 : Hid (Below w1.heap.size w1 (wr.alloc (.cells #[.int .i64 qi, .int .i64 qf, .int .i64 qp, .int .i64 qd, .bool qw, .bool qt, .int .i64 qa] 41))) := below_new Bl.out _
      have YH : Hid ((wr.alloc (.cells #[.int .i64 qi, .int .i64 qf, .int .i64 qp, .int .i64 qd, .bool qw, .bool qt, .int .i64 qa] 41)).heap[wr.heap.size]? = some (.cells #[.int .i64 qi, .int .i64 qf, .int .i64 qp, .int .i64 qd, .bool qw, .bool qt, .int .i64 qa] 41 (0, 0))) := own1 wr _
      have XH2 : Hid ((wr.alloc (.cells #[.int .i64 qi, .int .i64 qf, .int .i64 qp, .int .i64 qd, .bool qw, .bool qt, .int .i64 qa] 41)).heap[w.heap.size]? = some (.cells #[.int .i64 xi, .int .i64 xf, .int .i64 xp, .int .i64 xd, .bool xw, .bool xt, .int .i64 xa] 41 (0, 0))) := ((Go.Joins.below_alloc1 wr _).block _ lxw).trans XH.out
      clear O Bl XH y0 y1 y2 y3 y4 y5 y6
      have XH := XH2
      clear XH2
      generalize (wr.alloc (.cells #[.int .i64 qi, .int .i64 qf, .int .i64 qp, .int .i64 qd, .bool qw, .bool qt, .int .i64 qa] 41)) = U at O2 B2 YH XH ⊢
      generalize wr.heap.size = yb at YH lyw lxw ⊢
      have lyc : yb < U.heap.size := (Array.getElem?_eq_some_iff.1 YH.out).1
      have lxc : w.heap.size < U.heap.size := (Array.getElem?_eq_some_iff.1 XH.out).1
      have xc0 : U.cell? ⟨w.heap.size, 0, none⟩ = some (.int .i64 xi) := cells9 XH.out 0 _ rfl
      have xc1 : U.cell? ⟨w.heap.size, 1, none⟩ = some (.int .i64 xf) := cells9 XH.out 1 _ rfl
      have xc2 : U.cell? ⟨w.heap.size, 2, none⟩ = some (.int .i64 xp) := cells9 XH.out 2 _ rfl
      have xc3 : U.cell? ⟨w.heap.size, 3, none⟩ = some (.int .i64 xd) := cells9 XH.out 3 _ rfl
      have xc4 : U.cell? ⟨w.heap.size, 4, none⟩ = some (.bool xw) := cells9 XH.out 4 _ rfl
      have xc5 : U.cell? ⟨w.heap.size, 5, none⟩ = some (.bool xt) := cells9 XH.out 5 _ rfl
      have xc6 : U.cell? ⟨w.heap.size, 6, none⟩ = some (.int .i64 xa) := cells9 XH.out 6 _ rfl
      have yc0 : U.cell? ⟨yb, 0, none⟩ = some (.int .i64 qi) := cells9 YH.out 0 _ rfl
      have yc1 : U.cell? ⟨yb, 1, none⟩ = some (.int .i64 qf) := cells9 YH.out 1 _ rfl
      have yc2 : U.cell? ⟨yb, 2, none⟩ = some (.int .i64 qp) := cells9 YH.out 2 _ rfl
      have yc3 : U.cell? ⟨yb, 3, none⟩ = some (.int .i64 qd) := cells9 YH.out 3 _ rfl
      have yc4 : U.cell? ⟨yb, 4, none⟩ = some (.bool qw) := cells9 YH.out 4 _ rfl
      have yc5 : U.cell? ⟨yb, 5, none⟩ = some (.bool qt) := cells9 YH.out 5 _ rfl
      have yc6 : U.cell? ⟨yb, 6, none⟩ = some (.int .i64 qa) := cells9 YH.out 6 _ rfl
      by_cases c1 : qi = xi
      · have e1 : (qi == xi) = true := by simp [c1]
        have e2 : (qi != xi) = false := by simp [c1]
        have d1 : decide (xi ≤ qi) = true := by simp; omega
        have C1 : Hid (qi = xi) := c1
        clear c1
        cases db'
        · skip
          have N2 : Hid (putS (L.take (m + 1)) ⟨xi, xf, xp, xd, xw, xt, xa⟩ = (OUT ++ [⟨xi, xf, xp, xd, xw, xt, xa⟩], true)) := by show _ = _; rw [NX.out]; unfold pstep; simp [C1.out]
          clear NX
          have OW1 : Hid ((U.alloc (.cells #[.int .i64 xi, .int .i64 xf, .int .i64 xp, .int .i64 xd, .bool xw, .bool xt, .int .i64 xa] 41)).ownsRow w1.heap.size 41 7 (.slice p9 nO c9) nO (OUT.flatMap Rq.enc)) := own_keep (by have := O2.out; unfold OwnRq at this; rw [HO.out] at this; exact this) (Go.Joins.below_alloc1 _ _)
          have NW1 : Hid (∀ j x, ([.int .i64 xi, .int .i64 xf, .int .i64 xp, .int .i64 xd, .bool xw, .bool xt, .int .i64 xa] : List Value)[j]? = some x → (U.alloc (.cells #[.int .i64 xi, .int .i64 xf, .int .i64 xp, .int .i64 xd, .bool xw, .bool xt, .int .i64 xa] 41)).cell? ((⟨U.heap.size, 0, none⟩ : Addr).add j) = some x) := new_cells U #[.int .i64 xi, .int .i64 xf, .int .i64 xp, .int .i64 xd, .bool xw, .bool xt, .int .i64 xa] 41
          have ON1 : Hid (∀ x ∈ ([.int .i64 xi, .int .i64 xf, .int .i64 xp, .int .i64 xd, .bool xw, .bool xt, .int .i64 xa] : List Value), x.oneCell' = true) := by show ∀ x ∈ ([.int .i64 xi, .int .i64 xf, .int .i64 xp, .int .i64 xd, .bool xw, .bool xt, .int .i64 xa] : List Value), x.oneCell' = true; simp [Value.oneCell']
          have BA1 : Hid (Below w1.heap.size w1 (U.alloc (.cells #[.int .i64 xi, .int .i64 xf, .int .i64 xp, .int .i64 xd, .bool xw, .bool xt, .int .i64 xa] 41))) := below_new B2.out _
          have HZ1 : Hid (w1.heap.size ≤ (U.alloc (.cells #[.int .i64 xi, .int .i64 xf, .int .i64 xp, .int .i64 xd, .bool xw, .bool xt, .int .i64 xa] 41)).heap.size) := BA1.out.size
          have MX1 : Hid (nO + 1 ≤ maxLen) := by show _ ≤ _; unfold maxLen; omega
          have BY1 : Hid ((nO + 1) * 48 ≤ 140737488355328) := by show _ ≤ _; omega
          have YA : Hid ((U.alloc (.cells #[.int .i64 xi, .int .i64 xf, .int .i64 xp, .int .i64 xd, .bool xw, .bool xt, .int .i64 xa] 41)).heap[yb]? = some (.cells #[.int .i64 qi, .int .i64 qf, .int .i64 qp, .int .i64 qd, .bool qw, .bool qt, .int .i64 qa] 41 (0, 0))) := ((Go.Joins.below_alloc1 U _).block _ lyc).trans YH.out
          have XA : Hid ((U.alloc (.cells #[.int .i64 xi, .int .i64 xf, .int .i64 xp, .int .i64 xd, .bool xw, .bool xt, .int .i64 xa] 41)).heap[w.heap.size]? = some (.cells #[.int .i64 xi, .int .i64 xf, .int .i64 xp, .int .i64 xd, .bool xw, .bool xt, .int .i64 xa] 41 (0, 0))) := ((Go.Joins.below_alloc1 U _).block _ lxc).trans XH.out
          have lxo : ∀ j, (Value.slice p9 nO c9).ownBlock = some j → j ≠ w.heap.size := fun j hj => by have := own_base OW1.out j hj; have := E1.out; omega
          clear O2 B2
          go_wp2_with (at_builtin; refine wpList_append_own _ rfl _ _ 28 rfl w1.heap.size 41 i0 (.agg #[.int .i64 0, .int .i64 0, .int .i64 0, .int .i64 0, .bool false, .bool false, .int .i64 0]) 7 48 Try.underlying28 hi hz0 hz1 hz2 rfl (by decide) (.slice p9 nO c9) nO (OUT.flatMap Rq.enc) rfl OW1.out ⟨U.heap.size, 0, none⟩ 1 1 ([.int .i64 xi, .int .i64 xf, .int .i64 xp, .int .i64 xd, .bool xw, .bool xt, .int .i64 xa] : List Value) rfl rfl NW1.out ON1.out MX1.out BY1.out HZ1.out ?_; intro v1 a1 hown hg hnil; have O3 : Hid (OwnRq a1 w1.heap.size v1 (OUT ++ [⟨xi, xf, xp, xd, xw, xt, xa⟩])) := (OwnRq.next (by rw [HO.out]; exact hown)); have B3 : Hid (Below w1.heap.size w1 a1) := (below_grown' BA1.out OW1.out hg); have YH2 : Hid (a1.heap[yb]? = some (.cells #[.int .i64 qi, .int .i64 qf, .int .i64 qp, .int .i64 qd, .bool qw, .bool qt, .int .i64 qa] 41 (0, 0))) := (yh_next hg YA.out lyw); have XH3 : Hid (a1.heap[w.heap.size]? = some (.cells #[.int .i64 xi, .int .i64 xf, .int .i64 xp, .int .i64 xd, .bool xw, .bool xt, .int .i64 xa] 41 (0, 0))) := (yh_next hg XA.out lxo); clear xc0 xc1 xc2 xc3 xc4 xc5 xc6 yc0 yc1 yc2 yc3 yc4 yc5 yc6; have yc0 : a1.cell? ⟨yb, 0, none⟩ = some (.int .i64 qi) := (cells9 YH2.out 0 _ rfl); have yc1 : a1.cell? ⟨yb, 1, none⟩ = some (.int .i64 qf) := (cells9 YH2.out 1 _ rfl); have yc2 : a1.cell? ⟨yb, 2, none⟩ = some (.int .i64 qp) := (cells9 YH2.out 2 _ rfl); have yc3 : a1.cell? ⟨yb, 3, none⟩ = some (.int .i64 qd) := (cells9 YH2.out 3 _ rfl); have yc4 : a1.cell? ⟨yb, 4, none⟩ = some (.bool qw) := (cells9 YH2.out 4 _ rfl); have yc5 : a1.cell? ⟨yb, 5, none⟩ = some (.bool qt) := (cells9 YH2.out 5 _ rfl); have yc6 : a1.cell? ⟨yb, 6, none⟩ = some (.int .i64 qa) := (cells9 YH2.out 6 _ rfl); have xc0 : a1.cell? ⟨w.heap.size, 0, none⟩ = some (.int .i64 xi) := (cells9 XH3.out 0 _ rfl); clear hown hg hnil OW1 NW1 ON1 HZ1 MX1 BY1 BA1)
          go_wp2_with fail
          go_roundw
          case rel => exact ⟨m + 1, _, by omega, by go_num, rfl, (by show OwnRq _ _ _ _; rw [N2.out]; exact O3.out), (by show _ = _; rw [N2.out]), B3⟩
          case measure => simp [intOf]; omega
        · skip
          have N2 : Hid (putS (L.take (m + 1)) ⟨xi, xf, xp, xd, xw, xt, xa⟩ = (OUT, true)) := by show _ = _; rw [NX.out]; unfold pstep; simp [C1.out]
          clear NX
          go_wp2_with fail
          go_roundw
          case rel => exact ⟨m + 1, _, by omega, by go_num, rfl, (by show OwnRq _ _ _ _; rw [N2.out, ← HO.out]; exact O2.out), (by show _ = _; rw [N2.out]), B2⟩
          case measure => simp [intOf]; omega
      · have e1 : (qi == xi) = false := by simp [c1]
        have e2 : (qi != xi) = true := by simp [c1]
        by_cases c2 : xi ≤ qi
        · have d1 : decide (xi ≤ qi) = true := by simp [c2]
          cases db'
          · skip
            have N2 : Hid (putS (L.take (m + 1)) ⟨xi, xf, xp, xd, xw, xt, xa⟩ = (OUT ++ [⟨xi, xf, xp, xd, xw, xt, xa⟩] ++ [⟨qi, qf, qp, qd, qw, qt, qa⟩], true)) := by show _ = _; rw [NX.out]; unfold pstep; simp [c1, c2]
            clear NX
            have OW1 : Hid ((U.alloc (.cells #[.int .i64 xi, .int .i64 xf, .int .i64 xp, .int .i64 xd, .bool xw, .bool xt, .int .i64 xa] 41)).ownsRow w1.heap.size 41 7 (.slice p9 nO c9) nO (OUT.flatMap Rq.enc)) := own_keep (by have := O2.out; unfold OwnRq at this; rw [HO.out] at this; exact this) (Go.Joins.below_alloc1 _ _)
            have NW1 : Hid (∀ j x, ([.int .i64 xi, .int .i64 xf, .int .i64 xp, .int .i64 xd, .bool xw, .bool xt, .int .i64 xa] : List Value)[j]? = some x → (U.alloc (.cells #[.int .i64 xi, .int .i64 xf, .int .i64 xp, .int .i64 xd, .bool xw, .bool xt, .int .i64 xa] 41)).cell? ((⟨U.heap.size, 0, none⟩ : Addr).add j) = some x) := new_cells U #[.int .i64 xi, .int .i64 xf, .int .i64 xp, .int .i64 xd, .bool xw, .bool xt, .int .i64 xa] 41
            have ON1 : Hid (∀ x ∈ ([.int .i64 xi, .int .i64 xf, .int .i64 xp, .int .i64 xd, .bool xw, .bool xt, .int .i64 xa] : List Value), x.oneCell' = true) := by show ∀ x ∈ ([.int .i64 xi, .int .i64 xf, .int .i64 xp, .int .i64 xd, .bool xw, .bool xt, .int .i64 xa] : List Value), x.oneCell' = true; simp [Value.oneCell']
            have BA1 : Hid (Below w1.heap.size w1 (U.alloc (.cells #[.int .i64 xi, .int .i64 xf, .int .i64 xp, .int .i64 xd, .bool xw, .bool xt, .int .i64 xa] 41))) := below_new B2.out _
            have HZ1 : Hid (w1.heap.size ≤ (U.alloc (.cells #[.int .i64 xi, .int .i64 xf, .int .i64 xp, .int .i64 xd, .bool xw, .bool xt, .int .i64 xa] 41)).heap.size) := BA1.out.size
            have MX1 : Hid (nO + 1 ≤ maxLen) := by show _ ≤ _; unfold maxLen; omega
            have BY1 : Hid ((nO + 1) * 48 ≤ 140737488355328) := by show _ ≤ _; omega
            have ONR : Hid (∀ x ∈ ([.int .i64 qi, .int .i64 qf, .int .i64 qp, .int .i64 qd, .bool qw, .bool qt, .int .i64 qa] : List Value), x.oneCell' = true) := by show ∀ x ∈ ([.int .i64 qi, .int .i64 qf, .int .i64 qp, .int .i64 qd, .bool qw, .bool qt, .int .i64 qa] : List Value), x.oneCell' = true; simp [Value.oneCell']
            have MXR : Hid (nO + 1 + 1 ≤ maxLen) := by show _ ≤ _; unfold maxLen; omega
            have BYR : Hid ((nO + 1 + 1) * 48 ≤ 140737488355328) := by show _ ≤ _; omega
            have YA : Hid ((U.alloc (.cells #[.int .i64 xi, .int .i64 xf, .int .i64 xp, .int .i64 xd, .bool xw, .bool xt, .int .i64 xa] 41)).heap[yb]? = some (.cells #[.int .i64 qi, .int .i64 qf, .int .i64 qp, .int .i64 qd, .bool qw, .bool qt, .int .i64 qa] 41 (0, 0))) := ((Go.Joins.below_alloc1 U _).block _ lyc).trans YH.out
            have XA : Hid ((U.alloc (.cells #[.int .i64 xi, .int .i64 xf, .int .i64 xp, .int .i64 xd, .bool xw, .bool xt, .int .i64 xa] 41)).heap[w.heap.size]? = some (.cells #[.int .i64 xi, .int .i64 xf, .int .i64 xp, .int .i64 xd, .bool xw, .bool xt, .int .i64 xa] 41 (0, 0))) := ((Go.Joins.below_alloc1 U _).block _ lxc).trans XH.out
            have lxo : ∀ j, (Value.slice p9 nO c9).ownBlock = some j → j ≠ w.heap.size := fun j hj => by have := own_base OW1.out j hj; have := E1.out; omega
            clear O2 B2
            go_wp2_with (first | (at_builtin; refine wpList_append_own _ rfl _ _ 28 rfl w1.heap.size 41 i0 (.agg #[.int .i64 0, .int .i64 0, .int .i64 0, .int .i64 0, .bool false, .bool false, .int .i64 0]) 7 48 Try.underlying28 hi hz0 hz1 hz2 rfl (by decide) (.slice p9 nO c9) nO (OUT.flatMap Rq.enc) rfl OW1.out ⟨U.heap.size, 0, none⟩ 1 1 ([.int .i64 xi, .int .i64 xf, .int .i64 xp, .int .i64 xd, .bool xw, .bool xt, .int .i64 xa] : List Value) rfl rfl NW1.out ON1.out MX1.out BY1.out HZ1.out ?_; intro v1 a1 hown hg hnil; have O3 : Hid (OwnRq a1 w1.heap.size v1 (OUT ++ [⟨xi, xf, xp, xd, xw, xt, xa⟩])) := (OwnRq.next (by rw [HO.out]; exact hown)); have B3 : Hid (Below w1.heap.size w1 a1) := (below_grown' BA1.out OW1.out hg); have YH2 : Hid (a1.heap[yb]? = some (.cells #[.int .i64 qi, .int .i64 qf, .int .i64 qp, .int .i64 qd, .bool qw, .bool qt, .int .i64 qa] 41 (0, 0))) := (yh_next hg YA.out lyw); have XH3 : Hid (a1.heap[w.heap.size]? = some (.cells #[.int .i64 xi, .int .i64 xf, .int .i64 xp, .int .i64 xd, .bool xw, .bool xt, .int .i64 xa] 41 (0, 0))) := (yh_next hg XA.out lxo); clear xc0 xc1 xc2 xc3 xc4 xc5 xc6 yc0 yc1 yc2 yc3 yc4 yc5 yc6; have yc0 : a1.cell? ⟨yb, 0, none⟩ = some (.int .i64 qi) := (cells9 YH2.out 0 _ rfl); have yc1 : a1.cell? ⟨yb, 1, none⟩ = some (.int .i64 qf) := (cells9 YH2.out 1 _ rfl); have yc2 : a1.cell? ⟨yb, 2, none⟩ = some (.int .i64 qp) := (cells9 YH2.out 2 _ rfl); have yc3 : a1.cell? ⟨yb, 3, none⟩ = some (.int .i64 qd) := (cells9 YH2.out 3 _ rfl); have yc4 : a1.cell? ⟨yb, 4, none⟩ = some (.bool qw) := (cells9 YH2.out 4 _ rfl); have yc5 : a1.cell? ⟨yb, 5, none⟩ = some (.bool qt) := (cells9 YH2.out 5 _ rfl); have yc6 : a1.cell? ⟨yb, 6, none⟩ = some (.int .i64 qa) := (cells9 YH2.out 6 _ rfl); have xc0 : a1.cell? ⟨w.heap.size, 0, none⟩ = some (.int .i64 xi) := (cells9 XH3.out 0 _ rfl); clear hown hg hnil OW1 NW1 ON1 HZ1 MX1 BY1 BA1; have OW2 : Hid ((a1.alloc (.cells #[.int .i64 qi, .int .i64 qf, .int .i64 qp, .int .i64 qd, .bool qw, .bool qt, .int .i64 qa] 41)).ownsRow w1.heap.size 41 7 v1 (nO + 1) ((OUT ++ [(⟨xi, xf, xp, xd, xw, xt, xa⟩ : Rq)]).flatMap Rq.enc)) := (own_keep (by have := O3.out; unfold OwnRq at this; rw [List.length_append, HO.out] at this; exact this) (Go.Joins.below_alloc1 _ _)); have NW2 : Hid (∀ j x, ([.int .i64 qi, .int .i64 qf, .int .i64 qp, .int .i64 qd, .bool qw, .bool qt, .int .i64 qa] : List Value)[j]? = some x → (a1.alloc (.cells #[.int .i64 qi, .int .i64 qf, .int .i64 qp, .int .i64 qd, .bool qw, .bool qt, .int .i64 qa] 41)).cell? ((⟨a1.heap.size, 0, none⟩ : Addr).add j) = some x) := (new_cells a1 #[.int .i64 qi, .int .i64 qf, .int .i64 qp, .int .i64 qd, .bool qw, .bool qt, .int .i64 qa] 41); have ON2 : Hid (∀ x ∈ ([.int .i64 qi, .int .i64 qf, .int .i64 qp, .int .i64 qd, .bool qw, .bool qt, .int .i64 qa] : List Value), x.oneCell' = true) := ONR; have BA2 : Hid (Below w1.heap.size w1 (a1.alloc (.cells #[.int .i64 qi, .int .i64 qf, .int .i64 qp, .int .i64 qd, .bool qw, .bool qt, .int .i64 qa] 41))) := (below_new B3.out _); have HZ2 : Hid (w1.heap.size ≤ (a1.alloc (.cells #[.int .i64 qi, .int .i64 qf, .int .i64 qp, .int .i64 qd, .bool qw, .bool qt, .int .i64 qa] 41)).heap.size) := BA2.out.size; have MX2 : Hid (nO + 1 + 1 ≤ maxLen) := MXR; have BY2 : Hid ((nO + 1 + 1) * 48 ≤ 140737488355328) := BYR) | (at_builtin; refine wpList_append_own _ rfl _ _ 28 rfl w1.heap.size 41 i0 (.agg #[.int .i64 0, .int .i64 0, .int .i64 0, .int .i64 0, .bool false, .bool false, .int .i64 0]) 7 48 Try.underlying28 hi hz0 hz1 hz2 rfl (by decide) v1 (nO + 1) ((OUT ++ [(⟨xi, xf, xp, xd, xw, xt, xa⟩ : Rq)]).flatMap Rq.enc) rfl OW2.out ⟨a1.heap.size, 0, none⟩ 1 1 ([.int .i64 qi, .int .i64 qf, .int .i64 qp, .int .i64 qd, .bool qw, .bool qt, .int .i64 qa] : List Value) rfl rfl NW2.out ON2.out MX2.out BY2.out HZ2.out ?_; intro v2 a2 hown hg hnil; have O4 : Hid (OwnRq a2 w1.heap.size v2 (OUT ++ [⟨xi, xf, xp, xd, xw, xt, xa⟩] ++ [⟨qi, qf, qp, qd, qw, qt, qa⟩])) := (OwnRq.next (by rw [List.length_append, HO.out]; exact hown)); have B4 : Hid (Below w1.heap.size w1 a2) := (below_grown' BA2.out OW2.out hg); clear hown hg hnil OW2 NW2 ON2 HZ2 MX2 BY2 BA2))
            go_wp2_with fail
            go_roundw
            case rel => exact ⟨m + 1, _, by omega, by go_num, rfl, (by show OwnRq _ _ _ _; rw [N2.out]; exact O4.out), (by show _ = _; rw [N2.out]), B4⟩
            case measure => simp [intOf]; omega
          · skip
            have N2 : Hid (putS (L.take (m + 1)) ⟨xi, xf, xp, xd, xw, xt, xa⟩ = (OUT ++ [⟨qi, qf, qp, qd, qw, qt, qa⟩], true)) := by show _ = _; rw [NX.out]; unfold pstep; simp [c1, c2]
            clear NX
            have OW1 : Hid ((U.alloc (.cells #[.int .i64 qi, .int .i64 qf, .int .i64 qp, .int .i64 qd, .bool qw, .bool qt, .int .i64 qa] 41)).ownsRow w1.heap.size 41 7 (.slice p9 nO c9) nO (OUT.flatMap Rq.enc)) := own_keep (by have := O2.out; unfold OwnRq at this; rw [HO.out] at this; exact this) (Go.Joins.below_alloc1 _ _)
            have NW1 : Hid (∀ j x, ([.int .i64 qi, .int .i64 qf, .int .i64 qp, .int .i64 qd, .bool qw, .bool qt, .int .i64 qa] : List Value)[j]? = some x → (U.alloc (.cells #[.int .i64 qi, .int .i64 qf, .int .i64 qp, .int .i64 qd, .bool qw, .bool qt, .int .i64 qa] 41)).cell? ((⟨U.heap.size, 0, none⟩ : Addr).add j) = some x) := new_cells U #[.int .i64 qi, .int .i64 qf, .int .i64 qp, .int .i64 qd, .bool qw, .bool qt, .int .i64 qa] 41
            have ON1 : Hid (∀ x ∈ ([.int .i64 qi, .int .i64 qf, .int .i64 qp, .int .i64 qd, .bool qw, .bool qt, .int .i64 qa] : List Value), x.oneCell' = true) := by show ∀ x ∈ ([.int .i64 qi, .int .i64 qf, .int .i64 qp, .int .i64 qd, .bool qw, .bool qt, .int .i64 qa] : List Value), x.oneCell' = true; simp [Value.oneCell']
            have BA1 : Hid (Below w1.heap.size w1 (U.alloc (.cells #[.int .i64 qi, .int .i64 qf, .int .i64 qp, .int .i64 qd, .bool qw, .bool qt, .int .i64 qa] 41))) := below_new B2.out _
            have HZ1 : Hid (w1.heap.size ≤ (U.alloc (.cells #[.int .i64 qi, .int .i64 qf, .int .i64 qp, .int .i64 qd, .bool qw, .bool qt, .int .i64 qa] 41)).heap.size) := BA1.out.size
            have MX1 : Hid (nO + 1 ≤ maxLen) := by show _ ≤ _; unfold maxLen; omega
            have BY1 : Hid ((nO + 1) * 48 ≤ 140737488355328) := by show _ ≤ _; omega
            clear O2 B2
            go_wp2_with (at_builtin; refine wpList_append_own _ rfl _ _ 28 rfl w1.heap.size 41 i0 (.agg #[.int .i64 0, .int .i64 0, .int .i64 0, .int .i64 0, .bool false, .bool false, .int .i64 0]) 7 48 Try.underlying28 hi hz0 hz1 hz2 rfl (by decide) (.slice p9 nO c9) nO (OUT.flatMap Rq.enc) rfl OW1.out ⟨U.heap.size, 0, none⟩ 1 1 ([.int .i64 qi, .int .i64 qf, .int .i64 qp, .int .i64 qd, .bool qw, .bool qt, .int .i64 qa] : List Value) rfl rfl NW1.out ON1.out MX1.out BY1.out HZ1.out ?_; intro v1 a1 hown hg hnil; have O3 : Hid (OwnRq a1 w1.heap.size v1 (OUT ++ [⟨qi, qf, qp, qd, qw, qt, qa⟩])) := (OwnRq.next (by rw [HO.out]; exact hown)); have B3 : Hid (Below w1.heap.size w1 a1) := (below_grown' BA1.out OW1.out hg); clear hown hg hnil OW1 NW1 ON1 HZ1 MX1 BY1 BA1)
            go_wp2_with fail
            go_roundw
            case rel => exact ⟨m + 1, _, by omega, by go_num, rfl, (by show OwnRq _ _ _ _; rw [N2.out]; exact O3.out), (by show _ = _; rw [N2.out]), B3⟩
            case measure => simp [intOf]; omega
        · have d1 : decide (xi ≤ qi) = false := by simp; omega
          cases db'
          · skip
            have N2 : Hid (putS (L.take (m + 1)) ⟨xi, xf, xp, xd, xw, xt, xa⟩ = (OUT ++ [⟨qi, qf, qp, qd, qw, qt, qa⟩], false)) := by show _ = _; rw [NX.out]; unfold pstep; simp [c1, c2]
            clear NX
            have OW1 : Hid ((U.alloc (.cells #[.int .i64 qi, .int .i64 qf, .int .i64 qp, .int .i64 qd, .bool qw, .bool qt, .int .i64 qa] 41)).ownsRow w1.heap.size 41 7 (.slice p9 nO c9) nO (OUT.flatMap Rq.enc)) := own_keep (by have := O2.out; unfold OwnRq at this; rw [HO.out] at this; exact this) (Go.Joins.below_alloc1 _ _)
            have NW1 : Hid (∀ j x, ([.int .i64 qi, .int .i64 qf, .int .i64 qp, .int .i64 qd, .bool qw, .bool qt, .int .i64 qa] : List Value)[j]? = some x → (U.alloc (.cells #[.int .i64 qi, .int .i64 qf, .int .i64 qp, .int .i64 qd, .bool qw, .bool qt, .int .i64 qa] 41)).cell? ((⟨U.heap.size, 0, none⟩ : Addr).add j) = some x) := new_cells U #[.int .i64 qi, .int .i64 qf, .int .i64 qp, .int .i64 qd, .bool qw, .bool qt, .int .i64 qa] 41
            have ON1 : Hid (∀ x ∈ ([.int .i64 qi, .int .i64 qf, .int .i64 qp, .int .i64 qd, .bool qw, .bool qt, .int .i64 qa] : List Value), x.oneCell' = true) := by show ∀ x ∈ ([.int .i64 qi, .int .i64 qf, .int .i64 qp, .int .i64 qd, .bool qw, .bool qt, .int .i64 qa] : List Value), x.oneCell' = true; simp [Value.oneCell']
            have BA1 : Hid (Below w1.heap.size w1 (U.alloc (.cells #[.int .i64 qi, .int .i64 qf, .int .i64 qp, .int .i64 qd, .bool qw, .bool qt, .int .i64 qa] 41))) := below_new B2.out _
            have HZ1 : Hid (w1.heap.size ≤ (U.alloc (.cells #[.int .i64 qi, .int .i64 qf, .int .i64 qp, .int .i64 qd, .bool qw, .bool qt, .int .i64 qa] 41)).heap.size) := BA1.out.size
            have MX1 : Hid (nO + 1 ≤ maxLen) := by show _ ≤ _; unfold maxLen; omega
            have BY1 : Hid ((nO + 1) * 48 ≤ 140737488355328) := by show _ ≤ _; omega
            clear O2 B2
            go_wp2_with (at_builtin; refine wpList_append_own _ rfl _ _ 28 rfl w1.heap.size 41 i0 (.agg #[.int .i64 0, .int .i64 0, .int .i64 0, .int .i64 0, .bool false, .bool false, .int .i64 0]) 7 48 Try.underlying28 hi hz0 hz1 hz2 rfl (by decide) (.slice p9 nO c9) nO (OUT.flatMap Rq.enc) rfl OW1.out ⟨U.heap.size, 0, none⟩ 1 1 ([.int .i64 qi, .int .i64 qf, .int .i64 qp, .int .i64 qd, .bool qw, .bool qt, .int .i64 qa] : List Value) rfl rfl NW1.out ON1.out MX1.out BY1.out HZ1.out ?_; intro v1 a1 hown hg hnil; have O3 : Hid (OwnRq a1 w1.heap.size v1 (OUT ++ [⟨qi, qf, qp, qd, qw, qt, qa⟩])) := (OwnRq.next (by rw [HO.out]; exact hown)); have B3 : Hid (Below w1.heap.size w1 a1) := (below_grown' BA1.out OW1.out hg); clear hown hg hnil OW1 NW1 ON1 HZ1 MX1 BY1 BA1)
            go_wp2_with fail
            go_roundw
            case rel => exact ⟨m + 1, _, by omega, by go_num, rfl, (by show OwnRq _ _ _ _; rw [N2.out]; exact O3.out), (by show _ = _; rw [N2.out]), B3⟩
            case measure => simp [intOf]; omega
          · skip
            have N2 : Hid (putS (L.take (m + 1)) ⟨xi, xf, xp, xd, xw, xt, xa⟩ = (OUT ++ [⟨qi, qf, qp, qd, qw, qt, qa⟩], true)) := by show _ = _; rw [NX.out]; unfold pstep; simp [c1, c2]
            clear NX
            have OW1 : Hid ((U.alloc (.cells #[.int .i64 qi, .int .i64 qf, .int .i64 qp, .int .i64 qd, .bool qw, .bool qt, .int .i64 qa] 41)).ownsRow w1.heap.size 41 7 (.slice p9 nO c9) nO (OUT.flatMap Rq.enc)) := own_keep (by have := O2.out; unfold OwnRq at this; rw [HO.out] at this; exact this) (Go.Joins.below_alloc1 _ _)
            have NW1 : Hid (∀ j x, ([.int .i64 qi, .int .i64 qf, .int .i64 qp, .int .i64 qd, .bool qw, .bool qt, .int .i64 qa] : List Value)[j]? = some x → (U.alloc (.cells #[.int .i64 qi, .int .i64 qf, .int .i64 qp, .int .i64 qd, .bool qw, .bool qt, .int .i64 qa] 41)).cell? ((⟨U.heap.size, 0, none⟩ : Addr).add j) = some x) := new_cells U #[.int .i64 qi, .int .i64 qf, .int .i64 qp, .int .i64 qd, .bool qw, .bool qt, .int .i64 qa] 41
            have ON1 : Hid (∀ x ∈ ([.int .i64 qi, .int .i64 qf, .int .i64 qp, .int .i64 qd, .bool qw, .bool qt, .int .i64 qa] : List Value), x.oneCell' = true) := by show ∀ x ∈ ([.int .i64 qi, .int .i64 qf, .int .i64 qp, .int .i64 qd, .bool qw, .bool qt, .int .i64 qa] : List Value), x.oneCell' = true; simp [Value.oneCell']
            have BA1 : Hid (Below w1.heap.size w1 (U.alloc (.cells #[.int .i64 qi, .int .i64 qf, .int .i64 qp, .int .i64 qd, .bool qw, .bool qt, .int .i64 qa] 41))) := below_new B2.out _
            have HZ1 : Hid (w1.heap.size ≤ (U.alloc (.cells #[.int .i64 qi, .int .i64 qf, .int .i64 qp, .int .i64 qd, .bool qw, .bool qt, .int .i64 qa] 41)).heap.size) := BA1.out.size
            have MX1 : Hid (nO + 1 ≤ maxLen) := by show _ ≤ _; unfold maxLen; omega
            have BY1 : Hid ((nO + 1) * 48 ≤ 140737488355328) := by show _ ≤ _; omega
            clear O2 B2
            go_wp2_with (at_builtin; refine wpList_append_own _ rfl _ _ 28 rfl w1.heap.size 41 i0 (.agg #[.int .i64 0, .int .i64 0, .int .i64 0, .int .i64 0, .bool false, .bool false, .int .i64 0]) 7 48 Try.underlying28 hi hz0 hz1 hz2 rfl (by decide) (.slice p9 nO c9) nO (OUT.flatMap Rq.enc) rfl OW1.out ⟨U.heap.size, 0, none⟩ 1 1 ([.int .i64 qi, .int .i64 qf, .int .i64 qp, .int .i64 qd, .bool qw, .bool qt, .int .i64 qa] : List Value) rfl rfl NW1.out ON1.out MX1.out BY1.out HZ1.out ?_; intro v1 a1 hown hg hnil; have O3 : Hid (OwnRq a1 w1.heap.size v1 (OUT ++ [⟨qi, qf, qp, qd, qw, qt, qa⟩])) := (OwnRq.next (by rw [HO.out]; exact hown)); have B3 : Hid (Below w1.heap.size w1 a1) := (below_grown' BA1.out OW1.out hg); clear hown hg hnil OW1 NW1 ON1 HZ1 MX1 BY1 BA1)
            go_wp2_with fail
            go_roundw
            case rel => exact ⟨m + 1, _, by omega, by go_num, rfl, (by show OwnRq _ _ _ _; rw [N2.out]; exact O3.out), (by show _ = _; rw [N2.out]), B3⟩
            case measure => simp [intOf]; omega
    · have hd : decide ((m : Int) < (n : Int)) = false := by simp; omega
      obtain rfl : m = n := by omega
      generalize putS (L.take m) ⟨xi, xf, xp, xd, xw, xt, xa⟩ = S at O LO HD RR1 RR2 ⊢
      obtain ⟨OUT, db'⟩ := S
      simp only at O LO HD RR1 RR2 ⊢
      have hdb : db' = db := HD.out
      subst hdb
      obtain ⟨nO, hnO⟩ : ∃ x, OUT.length = x := ⟨_, rfl⟩
      have HO : Hid (OUT.length = nO) := hnO
      have lO : nO ≤ 512 := by rw [← hnO]; have := LO.out; omega
      rw [hnO]
      clear hnO LO HD HI
      have O2 := O
      have B2 := Bl
      have xc0 : wr.cell? ⟨w.heap.size, 0, none⟩ = some (.int .i64 xi) := cells9 XH.out 0 _ rfl
      have xc1 : wr.cell? ⟨w.heap.size, 1, none⟩ = some (.int .i64 xf) := cells9 XH.out 1 _ rfl
      have xc2 : wr.cell? ⟨w.heap.size, 2, none⟩ = some (.int .i64 xp) := cells9 XH.out 2 _ rfl
      have xc3 : wr.cell? ⟨w.heap.size, 3, none⟩ = some (.int .i64 xd) := cells9 XH.out 3 _ rfl
      have xc4 : wr.cell? ⟨w.heap.size, 4, none⟩ = some (.bool xw) := cells9 XH.out 4 _ rfl
      have xc5 : wr.cell? ⟨w.heap.size, 5, none⟩ = some (.bool xt) := cells9 XH.out 5 _ rfl
      have xc6 : wr.cell? ⟨w.heap.size, 6, none⟩ = some (.int .i64 xa) := cells9 XH.out 6 _ rfl
      cases db'
      · have hR : RR = OUT ++ [⟨xi, xf, xp, xd, xw, xt, xa⟩] := RR2.out rfl
        clear RR1 RR2 O
        have OW1 : Hid ((wr.alloc (.cells #[.int .i64 xi, .int .i64 xf, .int .i64 xp, .int .i64 xd, .bool xw, .bool xt, .int .i64 xa] 41)).ownsRow w1.heap.size 41 7 (.slice p9 nO c9) nO (OUT.flatMap Rq.enc)) := own_keep (by have := O2.out; unfold OwnRq at this; rw [HO.out] at this; exact this) (Go.Joins.below_alloc1 _ _)
        have NW1 : Hid (∀ j x, ([.int .i64 xi, .int .i64 xf, .int .i64 xp, .int .i64 xd, .bool xw, .bool xt, .int .i64 xa] : List Value)[j]? = some x → (wr.alloc (.cells #[.int .i64 xi, .int .i64 xf, .int .i64 xp, .int .i64 xd, .bool xw, .bool xt, .int .i64 xa] 41)).cell? ((⟨wr.heap.size, 0, none⟩ : Addr).add j) = some x) := new_cells wr #[.int .i64 xi, .int .i64 xf, .int .i64 xp, .int .i64 xd, .bool xw, .bool xt, .int .i64 xa] 41
        have ON1 : Hid (∀ x ∈ ([.int .i64 xi, .int .i64 xf, .int .i64 xp, .int .i64 xd, .bool xw, .bool xt, .int .i64 xa] : List Value), x.oneCell' = true) := by show ∀ x ∈ ([.int .i64 xi, .int .i64 xf, .int .i64 xp, .int .i64 xd, .bool xw, .bool xt, .int .i64 xa] : List Value), x.oneCell' = true; simp [Value.oneCell']
        have BA1 : Hid (Below w1.heap.size w1 (wr.alloc (.cells #[.int .i64 xi, .int .i64 xf, .int .i64 xp, .int .i64 xd, .bool xw, .bool xt, .int .i64 xa] 41))) := below_new B2.out _
        have HZ1 : Hid (w1.heap.size ≤ (wr.alloc (.cells #[.int .i64 xi, .int .i64 xf, .int .i64 xp, .int .i64 xd, .bool xw, .bool xt, .int .i64 xa] 41)).heap.size) := BA1.out.size
        have MX1 : Hid (nO + 1 ≤ maxLen) := by show _ ≤ _; unfold maxLen; omega
        have BY1 : Hid ((nO + 1) * 48 ≤ 140737488355328) := by show _ ≤ _; omega
        clear O2
        go_wp2_with (at_builtin; refine wpList_append_own _ rfl _ _ 28 rfl w1.heap.size 41 i0 (.agg #[.int .i64 0, .int .i64 0, .int .i64 0, .int .i64 0, .bool false, .bool false, .int .i64 0]) 7 48 Try.underlying28 hi hz0 hz1 hz2 rfl (by decide) (.slice p9 nO c9) nO (OUT.flatMap Rq.enc) rfl OW1.out ⟨wr.heap.size, 0, none⟩ 1 1 ([.int .i64 xi, .int .i64 xf, .int .i64 xp, .int .i64 xd, .bool xw, .bool xt, .int .i64 xa] : List Value) rfl rfl NW1.out ON1.out MX1.out BY1.out HZ1.out ?_; intro v1 a1 hown hg hnil; have O3 : Hid (OwnRq a1 w1.heap.size v1 (OUT ++ [⟨xi, xf, xp, xd, xw, xt, xa⟩])) := (OwnRq.next (by rw [HO.out]; exact hown)); have B3 : Hid (Below w1.heap.size w1 a1) := (below_grown' BA1.out OW1.out hg); clear hown hg hnil OW1 NW1 ON1 HZ1 MX1 BY1 BA1)
        go_wp2_with fail
        go_ret
        rw [hR]
        obtain ⟨p2, c2, rfl, _, I2⟩ := ownrq_read O3.out
        exact ⟨_, _, rfl, I2.weak (by rw [E1.out]; omega), below_then BW.out B3.out⟩
      · have hR : RR = OUT := RR1.out rfl
        clear RR1 RR2
        go_wp2_with fail
        go_ret
        rw [hR]
        obtain ⟨p2, c2, hv2, _, I2⟩ := ownrq_read O.out
        rw [HO.out] at hv2 ⊢
        cases hv2
        exact ⟨_, _, rfl, I2.weak (by rw [E1.out]; omega), below_then BW.out Bl.out⟩
end Go.Proofs.Ytenfdcjnfgjilaa
