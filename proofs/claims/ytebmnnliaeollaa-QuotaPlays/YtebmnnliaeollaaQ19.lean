/- Containers: a call of the laws, on the tree and on the document's list. -/
import Derived.Test.YtebmnnliaeollaaQ18
namespace Go.Proofs.Ytebmnnliaeollaa
open Go.ChangeShapes Go.WideShapes Go.ChangeAt Go.RowKit Go.Maps
set_option linter.unusedSimpArgs false
set_option linter.unusedVariables false

theorem rchild_box {T : Nat → Nd} {root : Int} (g : Good T root) (base : Nat) (p : Option Addr) (c : Nat) (i n : Int) (w : World) (hw : base ≤ w.heap.size) (h : IsBox w base p (boxN T 64)) :
    Calls Try.prog 15 #[.slice p (boxN T 64).length c, .int .i64 i, .int .i64 n] w fun e w' => ∃ p' c', e = .returned (.tuple #[.slice p' (boxN (childT T i n) 64).length c', .int .i64 (childI T i n), .int .i64 (childN T i n)]) ∧ IsBox w' base p' (boxN (childT T i n) 64) ∧ Below w.heap.size w w' := by
  by_cases cz : childN T i n = 0
  · obtain ⟨e1, e2, e3⟩ := child_list g i n cz
    refine (childB_ok base p c (boxN T 64) e3 (box_fit g) i n w h (by rw [may_box g, (child_zero cz).1]) (freeN T) e2).mono ?_
    rintro e w' ⟨v, rfl, ho, hb⟩
    rw [e1] at ho
    obtain ⟨p', c', rfl, hI⟩ := box_read (ho.weak hw)
    exact ⟨p', c', by rw [childI, if_pos cz, cz], hI, hb⟩
  · have eT : childT T i n = T := by unfold childT; rw [if_neg cz]
    have eI : childI T i n = 0 := by unfold childI; rw [if_neg cz]
    rw [eT, eI]
    by_cases m : mayN T i n = 0
    · have e4 : freeN T < 0 ∧ childN T i n = 4 := by
        unfold childN at cz ⊢
        rw [if_pos m] at cz ⊢
        by_cases f : freeN T < 0
        · exact ⟨f, by rw [if_pos f]⟩
        · rw [if_neg f] at cz; exact absurd rfl cz
      have full : (boxN T 64).length = 64 := by
        rcases free_cases T with ⟨r, r6, er, rl, rlow⟩ | ⟨er, hf⟩
        · exfalso; have := e4.1; omega
        · exact full_len T hf
      refine (childB_big base p c (boxN T 64) (box_small T) (box_fit g) i n w h (by rw [may_box g, m]) (by omega)).mono ?_
      rintro e w' ⟨rfl, hb⟩
      exact ⟨p, c, by rw [e4.2], h.below hb, hb⟩
    · have e4 : childN T i n = mayN T i n := by unfold childN; rw [if_neg m]
      refine (childB_may base p c (boxN T 64) (box_small T) (box_fit g) i n w h (by rw [may_box g]; exact m)).mono ?_
      rintro e w' ⟨rfl, hb⟩
      exact ⟨p, c, by rw [e4, may_box g], h.below hb, hb⟩
theorem rend_box {T : Nat → Nd} {root : Int} (g : Good T root) (base : Nat) (p : Option Addr) (c : Nat) (i : Int) (w : World) (hw : base ≤ w.heap.size) (h : IsBox w base p (boxN T 64)) :
    Calls Try.prog 20 #[.slice p (boxN T 64).length c, .int .i64 i] w fun e w' => ∃ p' c', e = .returned (.tuple #[.slice p' (boxN (endT T i) 64).length c', .int .i64 (endN T i)]) ∧ IsBox w' base p' (boxN (endT T i) 64) ∧ Below w.heap.size w w' := by
  refine (endB_any base p c (boxN T 64) (box_small T) i w h).mono ?_
  rintro e w' ⟨v, er, rfl, ⟨e1, e2, e3⟩, hb⟩
  rw [end_box g] at e1
  subst e1
  by_cases cz : endN T i = 0
  · have ho := e3 cz
    rw [end_list g i cz] at ho
    obtain ⟨p', c', rfl, hI⟩ := box_read (ho.weak hw)
    exact ⟨p', c', rfl, hI, hb⟩
  · have eT : endT T i = T := by unfold endT; rw [if_neg cz]
    rw [eT, e2 cz]
    exact ⟨p, c, rfl, h.below hb, hb⟩
theorem radd_box {T : Nat → Nd} {root : Int} (g : Good T root) (base : Nat) (p : Option Addr) (c : Nat) (k : Nat) (n : Int) (n0 : -1048576 ≤ n) (n1 : n ≤ 1048576) (w : World) (hw : base ≤ w.heap.size) (h : IsBox w base p (boxN T 64)) :
    Calls Try.prog 17 #[.slice p (boxN T 64).length c, .int .i64 (k : Int), .int .i64 n] w fun e w' => ∃ p' c', e = .returned (.slice p' (boxN (putT T k ((T k).plus n)) 64).length c') ∧ IsBox w' base p' (boxN (putT T k ((T k).plus n)) 64) ∧ Below w.heap.size w w' := by
  refine (addB_any base p c (boxN T 64) (box_small T) (box_fit g) k n n0 n1 w h).mono ?_
  rintro e w' ⟨v, rfl, ho, hb⟩
  rw [add_box] at ho
  obtain ⟨p', c', rfl, hI⟩ := box_read (ho.weak hw)
  exact ⟨p', c', rfl, hI, hb⟩
theorem radd_charge {T : Nat → Nd} {root : Int} (g : Good T root) (base : Nat) (p : Option Addr) (c : Nat) (i n : Int) (hz : mayN T i n = 0) (w : World) (hw : base ≤ w.heap.size) (h : IsBox w base p (boxN T 64)) :
    Calls Try.prog 17 #[.slice p (boxN T 64).length c, .int .i64 i, .int .i64 n] w fun e w' => ∃ p' c', e = .returned (.slice p' (boxN (chargeT T i n) 64).length c') ∧ IsBox w' base p' (boxN (chargeT T i n) 64) ∧ Below w.heap.size w w' := by
  obtain ⟨m1, m2, m3⟩ := may_zero hz
  obtain ⟨k, rfl, hk, hg⟩ := live_in m1
  have nn := g.nn k hk
  have rb := g.rb1
  have e : chargeT T k n = putT T k ((T k).plus n) := by unfold chargeT; rw [if_pos hz, Int.toNat_natCast]
  rw [e]
  rw [hg] at m3
  unfold Nd.room at m3
  exact radd_box g base p c k n (by omega) (by omega) w hw h
theorem radd_credit {T : Nat → Nd} {root : Int} (g : Good T root) (base : Nat) (p : Option Addr) (c : Nat) (i n : Int) (hz : creditN T i n = 0) (w : World) (hw : base ≤ w.heap.size) (h : IsBox w base p (boxN T 64)) :
    Calls Try.prog 17 #[.slice p (boxN T 64).length c, .int .i64 i, .int .i64 (-n)] w fun e w' => ∃ p' c', e = .returned (.slice p' (boxN (creditT T i n) 64).length c') ∧ IsBox w' base p' (boxN (creditT T i n) 64) ∧ Below w.heap.size w w' := by
  obtain ⟨m1, m2, m3⟩ := credit_zero hz
  obtain ⟨k, rfl, hk, hg⟩ := live_in m1
  have nn := g.nn k hk
  have rb := g.rb1
  have e : creditT T k n = putT T k ((T k).plus (-n)) := by unfold creditT; rw [if_pos hz, Int.toNat_natCast]
  rw [e]
  rw [hg] at m3
  exact radd_box g base p c k (-n) (by omega) (by omega) w hw h
/-- what is asked of both behind a call -/
def Both (w w' : World) (b base : Nat) (T : Nat → Nd) (p : Option Addr) : Prop := IsTree w' b T ∧ IsBox w' base p (boxN T 64) ∧ w.grownBy w' (some b)
set_option maxHeartbeats 1000000 in
theorem does1 (b : Nat) {T : Nat → Nd} {root : Int} (g : Good T root) (base : Nat) (hbb : b < base) (p : Option Addr) (c : Nat) (i n : Int) (w : World) (hw : base ≤ w.heap.size) (h : IsTree w b T) (hx : IsBox w base p (boxN T 64)) :
    Calls Try.prog 6 #[.pointer (some ⟨b, 0, none⟩), .slice p (boxN T 64).length c, .agg #[.int .i64 1, .int .i64 i, .int .i64 n]] w fun e w' => ∃ p' c', e = .returned (.tuple #[.slice p' (boxN (childT T i n) 64).length c', .bool true]) ∧ Both w w' b base (childT T i n) p' := by
  have hb := h.2.2
  have HT : Hid (IsTree w b T) := h
  have HX : Hid (IsBox w base p (boxN T 64)) := hx
  have CH : Hid (∀ W : World, IsTree W b T → Calls Try.prog 12 #[.pointer (some ⟨b, 0, none⟩), .int .i64 i, .int .i64 n] W fun e w' => e = .returned (.tuple #[.int .i64 (childI T i n), .int .i64 (childN T i n)]) ∧ IsTree w' b (childT T i n) ∧ W.grownBy w' (some b)) := fun W h => child_any b T g.okT i n W h
  have RC : Hid (∀ W : World, base ≤ W.heap.size → IsBox W base p (boxN T 64) → Calls Try.prog 15 #[.slice p (boxN T 64).length c, .int .i64 i, .int .i64 n] W fun e w' => ∃ p' c', e = .returned (.tuple #[.slice p' (boxN (childT T i n) 64).length c', .int .i64 (childI T i n), .int .i64 (childN T i n)]) ∧ IsBox w' base p' (boxN (childT T i n) 64) ∧ Below W.heap.size W w') := fun W hW h => rchild_box g base p c i n W hW h
  clear h hx g
  generalize childI T i n = ci at CH RC
  generalize childN T i n = cn at CH RC
  generalize childT T i n = T' at CH RC ⊢
  generalize hB : boxN T 64 = B at RC HX ⊢
  generalize hB' : boxN T' 64 = B' at RC ⊢
  have HB' : Hid (boxN T' 64 = B') := hB'
  clear hB hB'
  generalize B.length = lB at RC ⊢
  generalize B'.length = lB' at RC ⊢
  go_enter Try.func6, Try.ntmps6
  go_wp2_with fail
  refine (CH.out _ (HT.out.below (Go.Joins.below_alloc1 _ _))).mono ?_
  rintro e u1 ⟨rfl, h1, h2⟩
  have x1 : u1.cell? ⟨w.heap.size, 1, none⟩ = some (.int .i64 i) := cell_grown h2 (by simp) (by omega) (by simp)
  have x2 : u1.cell? ⟨w.heap.size, 2, none⟩ = some (.int .i64 n) := cell_grown h2 (by simp) (by omega) (by simp)
  have lx : w.heap.size < u1.heap.size := Nat.lt_of_lt_of_le (by simp) h2.size
  have T1 : Hid (IsTree u1 b T') := h1
  have G1 : Hid (w.grownBy u1 (some b)) := grown_trans (grown_alloc _ _ _) h2
  have X1 : Hid (IsBox u1 base p B) := HX.out.grown G1.out hbb
  clear h1 h2
  go_wp2_with fail
  refine (RC.out _ (by omega) X1.out).mono ?_
  rintro e u2 ⟨p', c', rfl, hI, hb2⟩
  have Z2 : Hid (Both w u2 b base T' p') := ⟨T1.out.below hb2, by rw [HB'.out]; exact hI, grown_trans G1.out (grown_of_below hb2 _)⟩
  clear hI hb2
  go_wp2_with fail
  go_returns
  exact ⟨p', c', rfl, Z2.out⟩
set_option maxHeartbeats 1000000 in
theorem does2 (b : Nat) {T : Nat → Nd} {root : Int} (g : Good T root) (base : Nat) (hbb : b < base) (p : Option Addr) (c : Nat) (i n : Int) (w : World) (hw : base ≤ w.heap.size) (h : IsTree w b T) (hx : IsBox w base p (boxN T 64)) :
    Calls Try.prog 6 #[.pointer (some ⟨b, 0, none⟩), .slice p (boxN T 64).length c, .agg #[.int .i64 2, .int .i64 i, .int .i64 n]] w fun e w' => ∃ p' c', e = .returned (.tuple #[.slice p' (boxN (chargeT T i n) 64).length c', .bool true]) ∧ Both w w' b base (chargeT T i n) p' := by
  have hb := h.2.2
  have HT : Hid (IsTree w b T) := h
  have HX : Hid (IsBox w base p (boxN T 64)) := hx
  have CG : Hid (∀ W : World, IsTree W b T → Calls Try.prog 13 #[.pointer (some ⟨b, 0, none⟩), .int .i64 i, .int .i64 n] W fun e w' => e = .returned (.int .i64 (mayN T i n)) ∧ IsTree w' b (chargeT T i n) ∧ W.grownBy w' (some b)) := fun W h => charge_any b T g.okT i n W h
  have RC : Hid (∀ W : World, IsBox W base p (boxN T 64) → Calls Try.prog 16 #[.slice p (boxN T 64).length c, .int .i64 i, .int .i64 n] W fun e w' => e = .returned (.int .i64 (mayN T i n)) ∧ Below W.heap.size W w') := fun W h => by have := rcharge_any base p c (boxN T 64) (box_small T) (box_fit g) i n W h; rw [may_box g] at this; exact this
  by_cases cz : mayN T i n = 0
  · have AD : Hid (∀ W : World, base ≤ W.heap.size → IsBox W base p (boxN T 64) → Calls Try.prog 17 #[.slice p (boxN T 64).length c, .int .i64 i, .int .i64 (n)] W fun e w' => ∃ p' c', e = .returned (.slice p' (boxN (chargeT T i n) 64).length c') ∧ IsBox w' base p' (boxN (chargeT T i n) 64) ∧ Below W.heap.size W w') := fun W hW h => radd_charge g base p c i n cz W hW h
    rw [cz] at CG RC
    clear cz h hx g
    generalize chargeT T i n = T' at CG AD ⊢
    generalize hB : boxN T 64 = B at RC AD HX ⊢
    generalize hB' : boxN T' 64 = B' at AD ⊢
    have HB' : Hid (boxN T' 64 = B') := hB'
    clear hB hB'
    generalize B.length = lB at RC AD ⊢
    generalize B'.length = lB' at AD ⊢
    go_enter Try.func6, Try.ntmps6
    go_wp2_with fail
    refine (RC.out _ (HX.out.below (Go.Joins.below_alloc1 _ _))).mono ?_
    rintro e u1 ⟨rfl, hb1⟩
    have x1 : u1.cell? ⟨w.heap.size, 1, none⟩ = some (.int .i64 i) := (hb1.cell (p := ⟨w.heap.size, 1, none⟩) (by simp)).trans (by simp)
    have x2 : u1.cell? ⟨w.heap.size, 2, none⟩ = some (.int .i64 n) := (hb1.cell (p := ⟨w.heap.size, 2, none⟩) (by simp)).trans (by simp)
    have lx : w.heap.size < u1.heap.size := Nat.lt_of_lt_of_le (by simp) hb1.size
    have B1 : Hid (Below w.heap.size w u1) := below_then (Go.Joins.below_alloc1 _ _) hb1
    clear hb1
    go_wp2_with fail
    refine (CG.out _ (HT.out.below B1.out)).mono ?_
    rintro e u2 ⟨rfl, h1, h2⟩
    have y1 : u2.cell? ⟨w.heap.size, 1, none⟩ = some (.int .i64 i) := cell_grown h2 lx (by omega) x1
    have y2 : u2.cell? ⟨w.heap.size, 2, none⟩ = some (.int .i64 n) := cell_grown h2 lx (by omega) x2
    have ly : w.heap.size < u2.heap.size := Nat.lt_of_lt_of_le lx h2.size
    have T2 : Hid (IsTree u2 b T') := h1
    have G2 : Hid (w.grownBy u2 (some b)) := grown_trans (grown_of_below B1.out _) h2
    have X2 : Hid (IsBox u2 base p B) := HX.out.grown G2.out hbb
    clear h1 h2 x1 x2 lx
    go_wp2_with fail
    refine (AD.out _ (by omega) X2.out).mono ?_
    rintro e u3 ⟨p', c', rfl, hI, hb3⟩
    have Z3 : Hid (Both w u3 b base T' p') := ⟨T2.out.below hb3, by rw [HB'.out]; exact hI, grown_trans G2.out (grown_of_below hb3 _)⟩
    clear hI hb3
    go_wp2_with fail
    go_returns
    exact ⟨p', c', rfl, Z3.out⟩
  · have eT : chargeT T i n = T := by unfold chargeT; rw [if_neg cz]
    rw [eT] at CG ⊢
    generalize mayN T i n = cn at CG RC cz
    have cb : (cn == 0) = false := by simp [cz]
    clear h hx g eT
    generalize hB : boxN T 64 = B at RC HX ⊢
    have HB : Hid (boxN T 64 = B) := hB
    clear hB
    generalize B.length = lB at RC ⊢
    go_enter Try.func6, Try.ntmps6
    go_wp2_with fail
    refine (RC.out _ (HX.out.below (Go.Joins.below_alloc1 _ _))).mono ?_
    rintro e u1 ⟨rfl, hb1⟩
    have x1 : u1.cell? ⟨w.heap.size, 1, none⟩ = some (.int .i64 i) := (hb1.cell (p := ⟨w.heap.size, 1, none⟩) (by simp)).trans (by simp)
    have x2 : u1.cell? ⟨w.heap.size, 2, none⟩ = some (.int .i64 n) := (hb1.cell (p := ⟨w.heap.size, 2, none⟩) (by simp)).trans (by simp)
    have lx : w.heap.size < u1.heap.size := Nat.lt_of_lt_of_le (by simp) hb1.size
    have B1 : Hid (Below w.heap.size w u1) := below_then (Go.Joins.below_alloc1 _ _) hb1
    clear hb1
    go_wp2_with fail
    refine (CG.out _ (HT.out.below B1.out)).mono ?_
    rintro e u2 ⟨rfl, h1, h2⟩
    have G2 : Hid (w.grownBy u2 (some b)) := grown_trans (grown_of_below B1.out _) h2
    have Z2 : Hid (Both w u2 b base T p) := ⟨h1, by rw [HB.out]; exact HX.out.grown G2.out hbb, G2.out⟩
    clear h1 h2
    go_wp2_with fail
    go_returns
    exact ⟨p, c, rfl, Z2.out⟩
set_option maxHeartbeats 1000000 in
theorem does3 (b : Nat) {T : Nat → Nd} {root : Int} (g : Good T root) (base : Nat) (hbb : b < base) (p : Option Addr) (c : Nat) (i n : Int) (w : World) (hw : base ≤ w.heap.size) (h : IsTree w b T) (hx : IsBox w base p (boxN T 64)) :
    Calls Try.prog 6 #[.pointer (some ⟨b, 0, none⟩), .slice p (boxN T 64).length c, .agg #[.int .i64 3, .int .i64 i, .int .i64 n]] w fun e w' => ∃ p' c', e = .returned (.tuple #[.slice p' (boxN (creditT T i n) 64).length c', .bool true]) ∧ Both w w' b base (creditT T i n) p' := by
  have hb := h.2.2
  have HT : Hid (IsTree w b T) := h
  have HX : Hid (IsBox w base p (boxN T 64)) := hx
  have CG : Hid (∀ W : World, IsTree W b T → Calls Try.prog 19 #[.pointer (some ⟨b, 0, none⟩), .int .i64 i, .int .i64 n] W fun e w' => e = .returned (.int .i64 (creditN T i n)) ∧ IsTree w' b (creditT T i n) ∧ W.grownBy w' (some b)) := fun W h => credit_any b T g.okT i n W h
  have RC : Hid (∀ W : World, IsBox W base p (boxN T 64) → Calls Try.prog 18 #[.slice p (boxN T 64).length c, .int .i64 i, .int .i64 n] W fun e w' => e = .returned (.int .i64 (creditN T i n)) ∧ Below W.heap.size W w') := fun W h => by have := rcredit_any base p c (boxN T 64) (box_small T) (box_fit g) i n W h; rw [credit_box g] at this; exact this
  by_cases cz : creditN T i n = 0
  · have AD : Hid (∀ W : World, base ≤ W.heap.size → IsBox W base p (boxN T 64) → Calls Try.prog 17 #[.slice p (boxN T 64).length c, .int .i64 i, .int .i64 (-n)] W fun e w' => ∃ p' c', e = .returned (.slice p' (boxN (creditT T i n) 64).length c') ∧ IsBox w' base p' (boxN (creditT T i n) 64) ∧ Below W.heap.size W w') := fun W hW h => radd_credit g base p c i n cz W hW h
    have nb : -1048576 ≤ n ∧ n ≤ 1048576 := by
      obtain ⟨m1, m2, m3⟩ := credit_zero cz
      obtain ⟨k, rfl, hk, hg⟩ := live_in m1
      have nn := g.nn k hk
      have rb := g.rb1
      rw [hg] at m3
      omega
    obtain ⟨nb0, nb1⟩ := nb
    rw [cz] at CG RC
    clear cz h hx g
    generalize creditT T i n = T' at CG AD ⊢
    generalize hB : boxN T 64 = B at RC AD HX ⊢
    generalize hB' : boxN T' 64 = B' at AD ⊢
    have HB' : Hid (boxN T' 64 = B') := hB'
    clear hB hB'
    generalize B.length = lB at RC AD ⊢
    generalize B'.length = lB' at AD ⊢
    go_enter Try.func6, Try.ntmps6
    go_wp2_with fail
    refine (RC.out _ (HX.out.below (Go.Joins.below_alloc1 _ _))).mono ?_
    rintro e u1 ⟨rfl, hb1⟩
    have x1 : u1.cell? ⟨w.heap.size, 1, none⟩ = some (.int .i64 i) := (hb1.cell (p := ⟨w.heap.size, 1, none⟩) (by simp)).trans (by simp)
    have x2 : u1.cell? ⟨w.heap.size, 2, none⟩ = some (.int .i64 n) := (hb1.cell (p := ⟨w.heap.size, 2, none⟩) (by simp)).trans (by simp)
    have lx : w.heap.size < u1.heap.size := Nat.lt_of_lt_of_le (by simp) hb1.size
    have B1 : Hid (Below w.heap.size w u1) := below_then (Go.Joins.below_alloc1 _ _) hb1
    clear hb1
    go_wp2_with fail
    refine (CG.out _ (HT.out.below B1.out)).mono ?_
    rintro e u2 ⟨rfl, h1, h2⟩
    have y1 : u2.cell? ⟨w.heap.size, 1, none⟩ = some (.int .i64 i) := cell_grown h2 lx (by omega) x1
    have y2 : u2.cell? ⟨w.heap.size, 2, none⟩ = some (.int .i64 n) := cell_grown h2 lx (by omega) x2
    have ly : w.heap.size < u2.heap.size := Nat.lt_of_lt_of_le lx h2.size
    have T2 : Hid (IsTree u2 b T') := h1
    have G2 : Hid (w.grownBy u2 (some b)) := grown_trans (grown_of_below B1.out _) h2
    have X2 : Hid (IsBox u2 base p B) := HX.out.grown G2.out hbb
    clear h1 h2 x1 x2 lx
    go_wp2_with fail
    refine (AD.out _ (by omega) X2.out).mono ?_
    rintro e u3 ⟨p', c', rfl, hI, hb3⟩
    have Z3 : Hid (Both w u3 b base T' p') := ⟨T2.out.below hb3, by rw [HB'.out]; exact hI, grown_trans G2.out (grown_of_below hb3 _)⟩
    clear hI hb3
    go_wp2_with fail
    go_returns
    exact ⟨p', c', rfl, Z3.out⟩
  · have eT : creditT T i n = T := by unfold creditT; rw [if_neg cz]
    rw [eT] at CG ⊢
    generalize creditN T i n = cn at CG RC cz
    have cb : (cn == 0) = false := by simp [cz]
    clear h hx g eT
    generalize hB : boxN T 64 = B at RC HX ⊢
    have HB : Hid (boxN T 64 = B) := hB
    clear hB
    generalize B.length = lB at RC ⊢
    go_enter Try.func6, Try.ntmps6
    go_wp2_with fail
    refine (RC.out _ (HX.out.below (Go.Joins.below_alloc1 _ _))).mono ?_
    rintro e u1 ⟨rfl, hb1⟩
    have x1 : u1.cell? ⟨w.heap.size, 1, none⟩ = some (.int .i64 i) := (hb1.cell (p := ⟨w.heap.size, 1, none⟩) (by simp)).trans (by simp)
    have x2 : u1.cell? ⟨w.heap.size, 2, none⟩ = some (.int .i64 n) := (hb1.cell (p := ⟨w.heap.size, 2, none⟩) (by simp)).trans (by simp)
    have lx : w.heap.size < u1.heap.size := Nat.lt_of_lt_of_le (by simp) hb1.size
    have B1 : Hid (Below w.heap.size w u1) := below_then (Go.Joins.below_alloc1 _ _) hb1
    clear hb1
    go_wp2_with fail
    refine (CG.out _ (HT.out.below B1.out)).mono ?_
    rintro e u2 ⟨rfl, h1, h2⟩
    have G2 : Hid (w.grownBy u2 (some b)) := grown_trans (grown_of_below B1.out _) h2
    have Z2 : Hid (Both w u2 b base T p) := ⟨h1, by rw [HB.out]; exact HX.out.grown G2.out hbb, G2.out⟩
    clear h1 h2
    go_wp2_with fail
    go_returns
    exact ⟨p, c, rfl, Z2.out⟩
set_option maxHeartbeats 1000000 in
theorem does4 (b : Nat) {T : Nat → Nd} {root : Int} (g : Good T root) (base : Nat) (hbb : b < base) (p : Option Addr) (c : Nat) (i n : Int) (w : World) (hw : base ≤ w.heap.size) (h : IsTree w b T) (hx : IsBox w base p (boxN T 64)) :
    Calls Try.prog 6 #[.pointer (some ⟨b, 0, none⟩), .slice p (boxN T 64).length c, .agg #[.int .i64 4, .int .i64 i, .int .i64 n]] w fun e w' => ∃ p' c', e = .returned (.tuple #[.slice p' (boxN (endT T i) 64).length c', .bool true]) ∧ Both w w' b base (endT T i) p' := by
  have hb := h.2.2
  have HT : Hid (IsTree w b T) := h
  have HX : Hid (IsBox w base p (boxN T 64)) := hx
  have CE : Hid (∀ W : World, IsTree W b T → Calls Try.prog 14 #[.pointer (some ⟨b, 0, none⟩), .int .i64 i] W fun e w' => e = .returned (.int .i64 (endN T i)) ∧ IsTree w' b (endT T i) ∧ W.grownBy w' (some b)) := fun W h => end_any b T g.okT g.parT i W h
  have RC : Hid (∀ W : World, base ≤ W.heap.size → IsBox W base p (boxN T 64) → Calls Try.prog 20 #[.slice p (boxN T 64).length c, .int .i64 i] W fun e w' => ∃ p' c', e = .returned (.tuple #[.slice p' (boxN (endT T i) 64).length c', .int .i64 (endN T i)]) ∧ IsBox w' base p' (boxN (endT T i) 64) ∧ Below W.heap.size W w') := fun W hW h => rend_box g base p c i W hW h
  clear h hx g
  generalize endN T i = cn at CE RC
  generalize endT T i = T' at CE RC ⊢
  generalize hB : boxN T 64 = B at RC HX ⊢
  generalize hB' : boxN T' 64 = B' at RC ⊢
  have HB' : Hid (boxN T' 64 = B') := hB'
  clear hB hB'
  generalize B.length = lB at RC ⊢
  generalize B'.length = lB' at RC ⊢
  go_enter Try.func6, Try.ntmps6
  go_wp2_with fail
  refine (RC.out _ (by rw [World.size_alloc]; omega) (HX.out.below (Go.Joins.below_alloc1 _ _))).mono ?_
  rintro e u1 ⟨p', c', rfl, hI, hb1⟩
  have x1 : u1.cell? ⟨w.heap.size, 1, none⟩ = some (.int .i64 i) := (hb1.cell (p := ⟨w.heap.size, 1, none⟩) (by simp)).trans (by simp)
  have lx : w.heap.size < u1.heap.size := Nat.lt_of_lt_of_le (by simp) hb1.size
  have B1 : Hid (Below w.heap.size w u1) := below_then (Go.Joins.below_alloc1 _ _) hb1
  have X1 : Hid (IsBox u1 base p' B') := hI
  clear hb1 hI
  go_wp2_with fail
  refine (CE.out _ (HT.out.below B1.out)).mono ?_
  rintro e u2 ⟨rfl, h1, h2⟩
  have Z2 : Hid (Both w u2 b base T' p') := ⟨h1, by rw [HB'.out]; exact X1.out.grown h2 hbb, grown_trans (grown_of_below B1.out _) h2⟩
  clear h1 h2
  go_wp2_with fail
  go_returns
  exact ⟨p', c', rfl, Z2.out⟩
set_option maxHeartbeats 1000000 in
theorem doesB (b : Nat) {T : Nat → Nd} {root : Int} (g : Good T root) (base : Nat) (hbb : b < base) (p : Option Addr) (c : Nat) (k i n : Int) (w : World) (hw : base ≤ w.heap.size) (h : IsTree w b T) (hx : IsBox w base p (boxN T 64)) :
    Calls Try.prog 6 #[.pointer (some ⟨b, 0, none⟩), .slice p (boxN T 64).length c, .agg #[.int .i64 k, .int .i64 i, .int .i64 n]] w fun e w' => ∃ p' c', e = .returned (.tuple #[.slice p' (boxN (doesT T k i n) 64).length c', .bool true]) ∧ Both w w' b base (doesT T k i n) p' := by
  unfold doesT
  by_cases a1 : k = 1
  · subst a1; rw [if_pos rfl]; exact does1 b g base hbb p c i n w hw h hx
  rw [if_neg a1]
  by_cases a2 : k = 2
  · subst a2; rw [if_pos rfl]; exact does2 b g base hbb p c i n w hw h hx
  rw [if_neg a2]
  by_cases a3 : k = 3
  · subst a3; rw [if_pos rfl]; exact does3 b g base hbb p c i n w hw h hx
  rw [if_neg a3]
  by_cases a4 : k = 4
  · subst a4; rw [if_pos rfl]; exact does4 b g base hbb p c i n w hw h hx
  rw [if_neg a4]
  have b1 : (k == 1) = false := by simp [a1]
  have b2 : (k == 2) = false := by simp [a2]
  have b3 : (k == 3) = false := by simp [a3]
  have b4 : (k == 4) = false := by simp [a4]
  have Z2 : Hid (Both w (w.alloc (.cells #[.int .i64 k, .int .i64 i, .int .i64 n] 34)) b base T p) := ⟨h.below (Go.Joins.below_alloc1 _ _), hx.below (Go.Joins.below_alloc1 _ _), grown_alloc _ _ _⟩
  clear a1 a2 a3 a4 g h hx
  generalize (boxN T 64).length = lB
  go_enter Try.func6, Try.ntmps6
  go_wp2_with fail
  go_returns
  exact ⟨p, c, rfl, Z2.out⟩
end Go.Proofs.Ytebmnnliaeollaa
