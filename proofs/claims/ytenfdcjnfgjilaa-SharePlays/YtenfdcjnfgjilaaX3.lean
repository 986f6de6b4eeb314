/- Grants: the document's Without and Of. -/
import Derived.Test.YtenfdcjnfgjilaaX0
import Derived.Deep.DeepCutAuto
namespace Go.Proofs.Ytenfdcjnfgjilaa
open Go.ChangeShapes Go.WideShapes Go.ChangeAt Go.RowKit Go.Maps
set_option linter.unusedSimpArgs false
set_option linter.unusedVariables false
set_option maxRecDepth 8000
set_option maxRecDepth 8000
set_option maxRecDepth 8000

set_option maxHeartbeats 8000000 in
theorem rwithout_any (base : Nat) (p : Option Addr) (c : Nat) (L : List Rq) (hL : L.length ≤ 256) (a : Int) (w : World) (h : IsRq w base p L) :
    Calls Try.prog 26 #[.slice p L.length c, .int .i64 a] w fun e w' => ∃ p' c', e = .returned (.slice p' (withoutQ L a).length c') ∧ IsRq w' w.heap.size p' (withoutQ L a) ∧ Below w.heap.size w w' := by
  obtain ⟨i0, hi, hz0, hz1, hz2⟩ := info5 rg_info5
  have HI : Hid (IsRq w base p L) := h
  have RES : Hid (withoutQ (L.take L.length) a = withoutQ L a) := by show _ = _; rw [List.take_length]
  generalize withoutQ L a = RR at RES ⊢
  clear h
  obtain ⟨n, hn⟩ : ∃ n, L.length = n := ⟨_, rfl⟩
  have HN : Hid (L.length = n) := hn
  rw [hn] at hL RES ⊢
  clear hn
  go_enter Try.func26, Try.ntmps26
  go_wp2_with fail
  go_loopw [5, 11] (fun v y W => ∃ m : Nat, m ≤ n ∧ y = .int .i64 m ∧ Hid (OwnRq W w.heap.size v (withoutQ (L.take m) a)) ∧ Hid (Below w.heap.size w W)) (fun _ y _ => n - (intOf y).toNat)
  case atStart => exact ⟨0, by omega, rfl, startrq w, Go.Joins.below_alloc1 _ _⟩
  case round =>
    obtain ⟨m, hm, rfl, O, Bl⟩ := hrel
    obtain ⟨p9, c9, hv9, _, _⟩ := ownrq_read O.out
    subst hv9
    by_cases hlt : m < n
    · have hd : decide ((m : Int) < (n : Int)) = true := by simp; omega
      have LO : Hid ((withoutQ (L.take m) a).length ≤ m) := by show _ ≤ _; exact Nat.le_trans (List.length_filter_le _ _) (by rw [List.length_take]; omega)
      have NX : Hid (withoutQ (L.take (m + 1)) a = withoutQ (L.take m) a ++ withoutQ [L.getD m Rq.zero] a) := by show _ = _; rw [takeQ L m (by rw [HN.out]; exact hlt)]; exact List.filter_append _ _
      obtain ⟨g, rfl, g1, g2, gc⟩ := (HI.out.below Bl.out) m (by rw [HN.out]; exact hlt)
      generalize L.getD m Rq.zero = r at gc NX
      obtain ⟨qi, qf, qp, qd, qw, qt, qa⟩ := r
      have y0 : wr.cell? ⟨g, m * 7, none⟩ = some (.int .i64 qi) := gc 0 _ rfl
      have y1 : wr.cell? ⟨g, m * 7 + 1, none⟩ = some (.int .i64 qf) := gc 1 _ rfl
      have y2 : wr.cell? ⟨g, m * 7 + 2, none⟩ = some (.int .i64 qp) := gc 2 _ rfl
      have y3 : wr.cell? ⟨g, m * 7 + 3, none⟩ = some (.int .i64 qd) := gc 3 _ rfl
      have y4 : wr.cell? ⟨g, m * 7 + 4, none⟩ = some (.bool qw) := gc 4 _ rfl
      have y5 : wr.cell? ⟨g, m * 7 + 5, none⟩ = some (.bool qt) := gc 5 _ rfl
      have y6 : wr.cell? ⟨g, m * 7 + 6, none⟩ = some (.int .i64 qa) := gc 6 _ rfl
      clear gc
      generalize withoutQ (L.take m) a = OUT at O LO NX ⊢
      obtain ⟨nO, hnO⟩ : ∃ x, OUT.length = x := ⟨_, rfl⟩
      have HO : Hid (OUT.length = nO) := hnO
      have lO : nO ≤ 256 := by rw [← hnO]; have := LO.out; omega
      rw [hnO]
      clear hnO LO RES
      have mI : (m : Int) < (n : Int) := by omega
      have mn : (n : Int) ≤ 256 := by omega
      have O2 : Hid ((wr.alloc (.cells #[.int .i64 qi, .int .i64 qf, .int .i64 qp, .int .i64 qd, .bool qw, .bool qt, .int .i64 qa] 41)).ownsRow w.heap.size 41 7 (.slice p9 nO c9) nO (OUT.flatMap Rq.enc)) := own_keep (by have := O.out; unfold OwnRq at this; rw [HO.out] at this; exact this) (Go.Joins.below_alloc1 _ _)
      have B2 : Hid (Below w.heap.size w (wr.alloc (.cells #[.int .i64 qi, .int .i64 qf, .int .i64 qp, .int .i64 qd, .bool qw, .bool qt, .int .i64 qa] 41))) := below_new Bl.out _
      have YH : Hid ((wr.alloc (.cells #[.int .i64 qi, .int .i64 qf, .int .i64 qp, .int .i64 qd, .bool qw, .bool qt, .int .i64 qa] 41)).heap[wr.heap.size]? = some (.cells #[.int .i64 qi, .int .i64 qf, .int .i64 qp, .int .i64 qd, .bool qw, .bool qt, .int .i64 qa] 41 (0, 0))) := own1 wr _
      clear O Bl
      go_upto_region 5 with fail
      clear y0 y1 y2 y3 y4 y5 y6
      generalize (wr.alloc (.cells #[.int .i64 qi, .int .i64 qf, .int .i64 qp, .int .i64 qd, .bool qw, .bool qt, .int .i64 qa] 41)) = U at O2 B2 YH ⊢
      generalize wr.heap.size = yb at YH ⊢
      have lyc : yb < U.heap.size := (Array.getElem?_eq_some_iff.1 YH.out).1
      have yc0 : U.cell? ⟨yb, 0, none⟩ = some (.int .i64 qi) := cells9 YH.out 0 _ rfl
      have yc1 : U.cell? ⟨yb, 1, none⟩ = some (.int .i64 qf) := cells9 YH.out 1 _ rfl
      have yc2 : U.cell? ⟨yb, 2, none⟩ = some (.int .i64 qp) := cells9 YH.out 2 _ rfl
      have yc3 : U.cell? ⟨yb, 3, none⟩ = some (.int .i64 qd) := cells9 YH.out 3 _ rfl
      have yc4 : U.cell? ⟨yb, 4, none⟩ = some (.bool qw) := cells9 YH.out 4 _ rfl
      have yc5 : U.cell? ⟨yb, 5, none⟩ = some (.bool qt) := cells9 YH.out 5 _ rfl
      have yc6 : U.cell? ⟨yb, 6, none⟩ = some (.int .i64 qa) := cells9 YH.out 6 _ rfl
      by_cases c1 : qi = a
      · have e1 : (qi == a) = true := by simp [c1]
        have e2 : (qi != a) = false := by simp [c1]
        have C1 : Hid (qi = a) := c1
        clear c1
        have N2 : Hid (withoutQ (L.take (m + 1)) a = OUT) := by show _ = _; rw [NX.out]; simp [withoutQ, C1.out]
        clear NX
        go_wp2_with fail
        go_roundw
        case rel => exact ⟨m + 1, by omega, by go_num, (by show OwnRq _ _ _ _; rw [N2.out]; unfold OwnRq; rw [HO.out]; exact O2.out), B2⟩
        case measure => simp [intOf]; omega
      · have e1 : (qi == a) = false := by simp [c1]
        have e2 : (qi != a) = true := by simp [c1]
        have N2 : Hid (withoutQ (L.take (m + 1)) a = OUT ++ [⟨qi, qf, qp, qd, qw, qt, qa⟩]) := by show _ = _; rw [NX.out]; simp [withoutQ, c1]
        clear NX
        have OW1 : Hid ((U.alloc (.cells #[.int .i64 qi, .int .i64 qf, .int .i64 qp, .int .i64 qd, .bool qw, .bool qt, .int .i64 qa] 41)).ownsRow w.heap.size 41 7 (.slice p9 nO c9) nO (OUT.flatMap Rq.enc)) := own_keep O2.out (Go.Joins.below_alloc1 _ _)
        have NW1 : Hid (∀ j x, ([.int .i64 qi, .int .i64 qf, .int .i64 qp, .int .i64 qd, .bool qw, .bool qt, .int .i64 qa] : List Value)[j]? = some x → (U.alloc (.cells #[.int .i64 qi, .int .i64 qf, .int .i64 qp, .int .i64 qd, .bool qw, .bool qt, .int .i64 qa] 41)).cell? ((⟨U.heap.size, 0, none⟩ : Addr).add j) = some x) := new_cells U #[.int .i64 qi, .int .i64 qf, .int .i64 qp, .int .i64 qd, .bool qw, .bool qt, .int .i64 qa] 41
        have ON1 : Hid (∀ x ∈ ([.int .i64 qi, .int .i64 qf, .int .i64 qp, .int .i64 qd, .bool qw, .bool qt, .int .i64 qa] : List Value), x.oneCell' = true) := by show ∀ x ∈ ([.int .i64 qi, .int .i64 qf, .int .i64 qp, .int .i64 qd, .bool qw, .bool qt, .int .i64 qa] : List Value), x.oneCell' = true; simp [Value.oneCell']
        have BA1 : Hid (Below w.heap.size w (U.alloc (.cells #[.int .i64 qi, .int .i64 qf, .int .i64 qp, .int .i64 qd, .bool qw, .bool qt, .int .i64 qa] 41))) := below_new B2.out _
        have HZ1 : Hid (w.heap.size ≤ (U.alloc (.cells #[.int .i64 qi, .int .i64 qf, .int .i64 qp, .int .i64 qd, .bool qw, .bool qt, .int .i64 qa] 41)).heap.size) := BA1.out.size
        have MX1 : Hid (nO + 1 ≤ maxLen) := by show _ ≤ _; unfold maxLen; omega
        have BY1 : Hid ((nO + 1) * 48 ≤ 140737488355328) := by show _ ≤ _; omega
        clear O2 B2
        go_wp2_with (at_builtin; refine wpList_append_own _ rfl _ _ 28 rfl w.heap.size 41 i0 (.agg #[.int .i64 0, .int .i64 0, .int .i64 0, .int .i64 0, .bool false, .bool false, .int .i64 0]) 7 48 Try.underlying28 hi hz0 hz1 hz2 rfl (by decide) (.slice p9 nO c9) nO (OUT.flatMap Rq.enc) rfl OW1.out ⟨U.heap.size, 0, none⟩ 1 1 ([.int .i64 qi, .int .i64 qf, .int .i64 qp, .int .i64 qd, .bool qw, .bool qt, .int .i64 qa] : List Value) rfl rfl NW1.out ON1.out MX1.out BY1.out HZ1.out ?_; intro v1 a1 hown hg hnil; have O3 : Hid (OwnRq a1 w.heap.size v1 (OUT ++ [⟨qi, qf, qp, qd, qw, qt, qa⟩])) := (OwnRq.next (by rw [HO.out]; exact hown)); have B3 : Hid (Below w.heap.size w a1) := (below_grown BA1.out OW1.out hg); clear hown hg hnil OW1 NW1 ON1 HZ1 MX1 BY1 BA1)
        go_wp2_with fail
        go_roundw
        case rel => exact ⟨m + 1, by omega, by go_num, (by show OwnRq _ _ _ _; rw [N2.out]; exact O3.out), B3⟩
        case measure => simp [intOf]; omega
    · have hd : decide ((m : Int) < (n : Int)) = false := by simp; omega
      obtain rfl : m = n := by omega
      rw [RES.out] at O ⊢
      obtain ⟨p2, c2, hv2, _, I2⟩ := ownrq_read O.out
      have I2' : Hid (IsRq wr w.heap.size p2 RR) := I2
      cases hv2
      clear I2 O
      go_wp2_with fail
      go_ret
      exact ⟨_, _, rfl, I2'.out, Bl.out⟩
set_option maxHeartbeats 8000000 in
theorem rof_any (base : Nat) (p : Option Addr) (c : Nat) (L : List Rq) (hL : L.length ≤ 256) (a : Int) (w : World) (h : IsRq w base p L) :
    Calls Try.prog 11 #[.slice p L.length c, .int .i64 a] w fun e w' => ∃ p' c', e = .returned (.slice p' (ofQ L a).length c') ∧ IsRq w' w.heap.size p' (ofQ L a) ∧ Below w.heap.size w w' := by
  obtain ⟨i0, hi, hz0, hz1, hz2⟩ := info5 rg_info5
  have HI : Hid (IsRq w base p L) := h
  have RES : Hid (ofQ (L.take L.length) a = ofQ L a) := by show _ = _; rw [List.take_length]
  generalize ofQ L a = RR at RES ⊢
  clear h
  obtain ⟨n, hn⟩ : ∃ n, L.length = n := ⟨_, rfl⟩
  have HN : Hid (L.length = n) := hn
  rw [hn] at hL RES ⊢
  clear hn
  go_enter Try.func11, Try.ntmps11
  go_wp2_with fail
  go_loopw [5, 11] (fun v y W => ∃ m : Nat, m ≤ n ∧ y = .int .i64 m ∧ Hid (OwnRq W w.heap.size v (ofQ (L.take m) a)) ∧ Hid (Below w.heap.size w W)) (fun _ y _ => n - (intOf y).toNat)
  case atStart => exact ⟨0, by omega, rfl, startrq w, Go.Joins.below_alloc1 _ _⟩
  case round =>
    obtain ⟨m, hm, rfl, O, Bl⟩ := hrel
    obtain ⟨p9, c9, hv9, _, _⟩ := ownrq_read O.out
    subst hv9
    by_cases hlt : m < n
    · have hd : decide ((m : Int) < (n : Int)) = true := by simp; omega
      have LO : Hid ((ofQ (L.take m) a).length ≤ m) := by show _ ≤ _; exact Nat.le_trans (List.length_filter_le _ _) (by rw [List.length_take]; omega)
      have NX : Hid (ofQ (L.take (m + 1)) a = ofQ (L.take m) a ++ ofQ [L.getD m Rq.zero] a) := by show _ = _; rw [takeQ L m (by rw [HN.out]; exact hlt)]; exact List.filter_append _ _
      obtain ⟨g, rfl, g1, g2, gc⟩ := (HI.out.below Bl.out) m (by rw [HN.out]; exact hlt)
      generalize L.getD m Rq.zero = r at gc NX
      obtain ⟨qi, qf, qp, qd, qw, qt, qa⟩ := r
      have y0 : wr.cell? ⟨g, m * 7, none⟩ = some (.int .i64 qi) := gc 0 _ rfl
      have y1 : wr.cell? ⟨g, m * 7 + 1, none⟩ = some (.int .i64 qf) := gc 1 _ rfl
      have y2 : wr.cell? ⟨g, m * 7 + 2, none⟩ = some (.int .i64 qp) := gc 2 _ rfl
      have y3 : wr.cell? ⟨g, m * 7 + 3, none⟩ = some (.int .i64 qd) := gc 3 _ rfl
      have y4 : wr.cell? ⟨g, m * 7 + 4, none⟩ = some (.bool qw) := gc 4 _ rfl
      have y5 : wr.cell? ⟨g, m * 7 + 5, none⟩ = some (.bool qt) := gc 5 _ rfl
      have y6 : wr.cell? ⟨g, m * 7 + 6, none⟩ = some (.int .i64 qa) := gc 6 _ rfl
      clear gc
      generalize ofQ (L.take m) a = OUT at O LO NX ⊢
      obtain ⟨nO, hnO⟩ : ∃ x, OUT.length = x := ⟨_, rfl⟩
      have HO : Hid (OUT.length = nO) := hnO
      have lO : nO ≤ 256 := by rw [← hnO]; have := LO.out; omega
      rw [hnO]
      clear hnO LO RES
      have mI : (m : Int) < (n : Int) := by omega
      have mn : (n : Int) ≤ 256 := by omega
      have O2 : Hid ((wr.alloc (.cells #[.int .i64 qi, .int .i64 qf, .int .i64 qp, .int .i64 qd, .bool qw, .bool qt, .int .i64 qa] 41)).ownsRow w.heap.size 41 7 (.slice p9 nO c9) nO (OUT.flatMap Rq.enc)) := own_keep (by have := O.out; unfold OwnRq at this; rw [HO.out] at this; exact this) (Go.Joins.below_alloc1 _ _)
      have B2 : Hid (Below w.heap.size w (wr.alloc (.cells #[.int .i64 qi, .int .i64 qf, .int .i64 qp, .int .i64 qd, .bool qw, .bool qt, .int .i64 qa] 41))) := below_new Bl.out _
      have YH : Hid ((wr.alloc (.cells #[.int .i64 qi, .int .i64 qf, .int .i64 qp, .int .i64 qd, .bool qw, .bool qt, .int .i64 qa] 41)).heap[wr.heap.size]? = some (.cells #[.int .i64 qi, .int .i64 qf, .int .i64 qp, .int .i64 qd, .bool qw, .bool qt, .int .i64 qa] 41 (0, 0))) := own1 wr _
      clear O Bl
      go_upto_region 5 with fail
      clear y0 y1 y2 y3 y4 y5 y6
      generalize (wr.alloc (.cells #[.int .i64 qi, .int .i64 qf, .int .i64 qp, .int .i64 qd, .bool qw, .bool qt, .int .i64 qa] 41)) = U at O2 B2 YH ⊢
      generalize wr.heap.size = yb at YH ⊢
      have lyc : yb < U.heap.size := (Array.getElem?_eq_some_iff.1 YH.out).1
      have yc0 : U.cell? ⟨yb, 0, none⟩ = some (.int .i64 qi) := cells9 YH.out 0 _ rfl
      have yc1 : U.cell? ⟨yb, 1, none⟩ = some (.int .i64 qf) := cells9 YH.out 1 _ rfl
      have yc2 : U.cell? ⟨yb, 2, none⟩ = some (.int .i64 qp) := cells9 YH.out 2 _ rfl
      have yc3 : U.cell? ⟨yb, 3, none⟩ = some (.int .i64 qd) := cells9 YH.out 3 _ rfl
      have yc4 : U.cell? ⟨yb, 4, none⟩ = some (.bool qw) := cells9 YH.out 4 _ rfl
      have yc5 : U.cell? ⟨yb, 5, none⟩ = some (.bool qt) := cells9 YH.out 5 _ rfl
      have yc6 : U.cell? ⟨yb, 6, none⟩ = some (.int .i64 qa) := cells9 YH.out 6 _ rfl
      by_cases c1 : qf = a
      · have e1 : (qf == a) = true := by simp [c1]
        have C1 : Hid (qf = a) := c1
        clear c1
        have N2 : Hid (ofQ (L.take (m + 1)) a = OUT ++ [⟨qi, qf, qp, qd, qw, qt, qa⟩]) := by show _ = _; rw [NX.out]; simp [ofQ, C1.out]
        clear NX
        have OW1 : Hid ((U.alloc (.cells #[.int .i64 qi, .int .i64 qf, .int .i64 qp, .int .i64 qd, .bool qw, .bool qt, .int .i64 qa] 41)).ownsRow w.heap.size 41 7 (.slice p9 nO c9) nO (OUT.flatMap Rq.enc)) := own_keep O2.out (Go.Joins.below_alloc1 _ _)
        have NW1 : Hid (∀ j x, ([.int .i64 qi, .int .i64 qf, .int .i64 qp, .int .i64 qd, .bool qw, .bool qt, .int .i64 qa] : List Value)[j]? = some x → (U.alloc (.cells #[.int .i64 qi, .int .i64 qf, .int .i64 qp, .int .i64 qd, .bool qw, .bool qt, .int .i64 qa] 41)).cell? ((⟨U.heap.size, 0, none⟩ : Addr).add j) = some x) := new_cells U #[.int .i64 qi, .int .i64 qf, .int .i64 qp, .int .i64 qd, .bool qw, .bool qt, .int .i64 qa] 41
        have ON1 : Hid (∀ x ∈ ([.int .i64 qi, .int .i64 qf, .int .i64 qp, .int .i64 qd, .bool qw, .bool qt, .int .i64 qa] : List Value), x.oneCell' = true) := by show ∀ x ∈ ([.int .i64 qi, .int .i64 qf, .int .i64 qp, .int .i64 qd, .bool qw, .bool qt, .int .i64 qa] : List Value), x.oneCell' = true; simp [Value.oneCell']
        have BA1 : Hid (Below w.heap.size w (U.alloc (.cells #[.int .i64 qi, .int .i64 qf, .int .i64 qp, .int .i64 qd, .bool qw, .bool qt, .int .i64 qa] 41))) := below_new B2.out _
        have HZ1 : Hid (w.heap.size ≤ (U.alloc (.cells #[.int .i64 qi, .int .i64 qf, .int .i64 qp, .int .i64 qd, .bool qw, .bool qt, .int .i64 qa] 41)).heap.size) := BA1.out.size
        have MX1 : Hid (nO + 1 ≤ maxLen) := by show _ ≤ _; unfold maxLen; omega
        have BY1 : Hid ((nO + 1) * 48 ≤ 140737488355328) := by show _ ≤ _; omega
        clear O2 B2
        go_wp2_with (at_builtin; refine wpList_append_own _ rfl _ _ 28 rfl w.heap.size 41 i0 (.agg #[.int .i64 0, .int .i64 0, .int .i64 0, .int .i64 0, .bool false, .bool false, .int .i64 0]) 7 48 Try.underlying28 hi hz0 hz1 hz2 rfl (by decide) (.slice p9 nO c9) nO (OUT.flatMap Rq.enc) rfl OW1.out ⟨U.heap.size, 0, none⟩ 1 1 ([.int .i64 qi, .int .i64 qf, .int .i64 qp, .int .i64 qd, .bool qw, .bool qt, .int .i64 qa] : List Value) rfl rfl NW1.out ON1.out MX1.out BY1.out HZ1.out ?_; intro v1 a1 hown hg hnil; have O3 : Hid (OwnRq a1 w.heap.size v1 (OUT ++ [⟨qi, qf, qp, qd, qw, qt, qa⟩])) := (OwnRq.next (by rw [HO.out]; exact hown)); have B3 : Hid (Below w.heap.size w a1) := (below_grown BA1.out OW1.out hg); clear hown hg hnil OW1 NW1 ON1 HZ1 MX1 BY1 BA1)
        go_wp2_with fail
        go_roundw
        case rel => exact ⟨m + 1, by omega, by go_num, (by show OwnRq _ _ _ _; rw [N2.out]; exact O3.out), B3⟩
        case measure => simp [intOf]; omega
      · have e1 : (qf == a) = false := by simp [c1]
        by_cases c2 : qd = a
        · have e2 : (qd == a) = true := by simp [c2]
          have C2 : Hid (qd = a) := c2
          clear c2
          have N2 : Hid (ofQ (L.take (m + 1)) a = OUT ++ [⟨qi, qf, qp, qd, qw, qt, qa⟩]) := by show _ = _; rw [NX.out]; simp [ofQ, C2.out]
          clear NX
          have OW1 : Hid ((U.alloc (.cells #[.int .i64 qi, .int .i64 qf, .int .i64 qp, .int .i64 qd, .bool qw, .bool qt, .int .i64 qa] 41)).ownsRow w.heap.size 41 7 (.slice p9 nO c9) nO (OUT.flatMap Rq.enc)) := own_keep O2.out (Go.Joins.below_alloc1 _ _)
          have NW1 : Hid (∀ j x, ([.int .i64 qi, .int .i64 qf, .int .i64 qp, .int .i64 qd, .bool qw, .bool qt, .int .i64 qa] : List Value)[j]? = some x → (U.alloc (.cells #[.int .i64 qi, .int .i64 qf, .int .i64 qp, .int .i64 qd, .bool qw, .bool qt, .int .i64 qa] 41)).cell? ((⟨U.heap.size, 0, none⟩ : Addr).add j) = some x) := new_cells U #[.int .i64 qi, .int .i64 qf, .int .i64 qp, .int .i64 qd, .bool qw, .bool qt, .int .i64 qa] 41
          have ON1 : Hid (∀ x ∈ ([.int .i64 qi, .int .i64 qf, .int .i64 qp, .int .i64 qd, .bool qw, .bool qt, .int .i64 qa] : List Value), x.oneCell' = true) := by show ∀ x ∈ ([.int .i64 qi, .int .i64 qf, .int .i64 qp, .int .i64 qd, .bool qw, .bool qt, .int .i64 qa] : List Value), x.oneCell' = true; simp [Value.oneCell']
          have BA1 : Hid (Below w.heap.size w (U.alloc (.cells #[.int .i64 qi, .int .i64 qf, .int .i64 qp, .int .i64 qd, .bool qw, .bool qt, .int .i64 qa] 41))) := below_new B2.out _
          have HZ1 : Hid (w.heap.size ≤ (U.alloc (.cells #[.int .i64 qi, .int .i64 qf, .int .i64 qp, .int .i64 qd, .bool qw, .bool qt, .int .i64 qa] 41)).heap.size) := BA1.out.size
          have MX1 : Hid (nO + 1 ≤ maxLen) := by show _ ≤ _; unfold maxLen; omega
          have BY1 : Hid ((nO + 1) * 48 ≤ 140737488355328) := by show _ ≤ _; omega
          clear O2 B2
          go_wp2_with (at_builtin; refine wpList_append_own _ rfl _ _ 28 rfl w.heap.size 41 i0 (.agg #[.int .i64 0, .int .i64 0, .int .i64 0, .int .i64 0, .bool false, .bool false, .int .i64 0]) 7 48 Try.underlying28 hi hz0 hz1 hz2 rfl (by decide) (.slice p9 nO c9) nO (OUT.flatMap Rq.enc) rfl OW1.out ⟨U.heap.size, 0, none⟩ 1 1 ([.int .i64 qi, .int .i64 qf, .int .i64 qp, .int .i64 qd, .bool qw, .bool qt, .int .i64 qa] : List Value) rfl rfl NW1.out ON1.out MX1.out BY1.out HZ1.out ?_; intro v1 a1 hown hg hnil; have O3 : Hid (OwnRq a1 w.heap.size v1 (OUT ++ [⟨qi, qf, qp, qd, qw, qt, qa⟩])) := (OwnRq.next (by rw [HO.out]; exact hown)); have B3 : Hid (Below w.heap.size w a1) := (below_grown BA1.out OW1.out hg); clear hown hg hnil OW1 NW1 ON1 HZ1 MX1 BY1 BA1)
          go_wp2_with fail
          go_roundw
          case rel => exact ⟨m + 1, by omega, by go_num, (by show OwnRq _ _ _ _; rw [N2.out]; exact O3.out), B3⟩
          case measure => simp [intOf]; omega
        · have e2 : (qd == a) = false := by simp [c2]
          have N2 : Hid (ofQ (L.take (m + 1)) a = OUT) := by show _ = _; rw [NX.out]; simp [ofQ, c1, c2]
          clear NX
          go_wp2_with fail
          go_roundw
          case rel => exact ⟨m + 1, by omega, by go_num, (by show OwnRq _ _ _ _; rw [N2.out]; unfold OwnRq; rw [HO.out]; exact O2.out), B2⟩
          case measure => simp [intOf]; omega
    · have hd : decide ((m : Int) < (n : Int)) = false := by simp; omega
      obtain rfl : m = n := by omega
      rw [RES.out] at O ⊢
      obtain ⟨p2, c2, hv2, _, I2⟩ := ownrq_read O.out
      have I2' : Hid (IsRq wr w.heap.size p2 RR) := I2
      cases hv2
      clear I2 O
      go_wp2_with fail
      go_ret
      exact ⟨_, _, rfl, I2'.out, Bl.out⟩
end Go.Proofs.Ytenfdcjnfgjilaa
