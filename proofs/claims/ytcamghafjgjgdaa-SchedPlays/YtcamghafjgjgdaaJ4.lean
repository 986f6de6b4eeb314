/- The document's queue: Yield and Tick of a queue. -/
import Derived.Test.YtcamghafjgjgdaaJ3
namespace Go.Proofs.Ytcamghafjgjgdaa
open Go.ChangeShapes Go.WideShapes Go.ChangeAt Go.RowKit Go.Maps
set_option linter.unusedSimpArgs false
set_option linter.unusedVariables false

theorem ryld_any (S : Qu) (g : Good S) (p : Option Addr) (c : Nat) (base : Nat) (w : World) (hbs : base ≤ w.heap.size) (hI : IsI w p S.L base) :
    Calls Try.prog 15 #[.agg #[.int .i64 S.q, .int .i64 S.t, .slice p S.L.length c]] w fun e w' => (∃ p' c', e = .returned (.agg #[.int .i64 (yldS S).q, .int .i64 (yldS S).t, .slice p' (yldS S).L.length c']) ∧ IsI w' p' (yldS S).L base) ∧ Below w.heap.size w w' := by
  have few := g.few
  have yl : (ylL S.L).length = S.L.length := by rw [← rowY_all, rowY_len]
  rw [yld_q, yld_t g, yld_L, yl]
  exact (ryld_raw S.q S.t p c S.L (by omega) base w hI).mono (fun e w' h => ⟨by obtain ⟨p', c', e1, i1⟩ := h.1; exact ⟨p', c', e1, i1.low hbs⟩, h.2⟩)
set_option maxHeartbeats 2000000 in
theorem rtck0 (q t : Int) (p : Option Addr) (c : Nat) (w : World) :
    Calls Try.prog 16 #[.agg #[.int .i64 q, .int .i64 t, .slice p 0 c]] w fun e w' => e = .returned (.tuple #[.agg #[.int .i64 q, .int .i64 t, .slice p 0 c], .bool false]) ∧ Below w.heap.size w w' := by
  go_enter Try.func16, Try.ntmps16
  go_wp2_with fail
  go_returns
  exact ⟨rfl, Go.Joins.below_alloc2 _ _ _⟩
set_option maxHeartbeats 2000000 in
theorem rtck1 (q t : Int) (p : Option Addr) (n c : Nat) (hn : ¬ n = 0) (t0 : 0 ≤ t) (t1 : t + 1 < q) (q1 : q ≤ 1000) (w : World) :
    Calls Try.prog 16 #[.agg #[.int .i64 q, .int .i64 t, .slice p n c]] w fun e w' => e = .returned (.tuple #[.agg #[.int .i64 q, .int .i64 (t + 1), .slice p n c], .bool false]) ∧ Below w.heap.size w w' := by
  have n0 : ((n : Int) == 0) = false := by simp; omega
  have n1 : ¬ (n : Int) = 0 := by omega
  have d : decide (t + 1 < q) = true := by simp; omega
  go_enter Try.func16, Try.ntmps16
  go_wp2_with fail
  go_returns
  exact ⟨rfl, Go.Joins.below_alloc2 _ _ _⟩
set_option maxHeartbeats 4000000 in
theorem rtck2 (q t : Int) (p : Option Addr) (n c : Nat) (hn : ¬ n = 0) (t0 : 0 ≤ t) (t1 : ¬ t + 1 < q) (t2 : t ≤ 1000) (w : World) (M : List Int) (m : Nat)
    (YC : Hid (∀ W : World, Below w.heap.size w W → Calls Try.prog 15 #[.agg #[.int .i64 q, .int .i64 (t + 1), .slice p n c]] W fun e w' => (∃ p' c', e = .returned (.agg #[.int .i64 q, .int .i64 0, .slice p' m c']) ∧ IsI w' p' M W.heap.size) ∧ Below W.heap.size W w')) :
    Calls Try.prog 16 #[.agg #[.int .i64 q, .int .i64 t, .slice p n c]] w fun e w' => (∃ p' c', e = .returned (.tuple #[.agg #[.int .i64 q, .int .i64 0, .slice p' m c'], .bool true]) ∧ IsI w' p' M w.heap.size) ∧ Below w.heap.size w w' := by
  have n0 : ((n : Int) == 0) = false := by simp; omega
  have n1 : ¬ (n : Int) = 0 := by omega
  have d : decide (t + 1 < q) = false := by simp; omega
  have Q0 : Hid (Blk ((w.alloc (.cells #[.int .i64 q, .int .i64 (t + 1), .slice p n c] 30)).alloc (.cells #[.int .i64 0, .int .i64 0, .slice none 0 0] 30)) (w.heap.size + 1) [.int .i64 0, .int .i64 0, .slice none 0 0] 30) := by
    have := Blk.made (w.alloc (.cells #[.int .i64 q, .int .i64 (t + 1), .slice p n c] 30)) [.int .i64 0, .int .i64 0, .slice none 0 0] 30
    rw [World.size_alloc] at this; exact this
  go_enter Try.func16, Try.ntmps16
  go_wp2_with fail
  refine (YC.out _ (Go.Joins.below_alloc2 _ _ _)).mono ?_
  rintro e u ⟨⟨p3, c3, rfl, hI⟩, hb⟩
  have B1 : Hid (Below w.heap.size w u) := below_then (Go.Joins.below_alloc2 _ _ _) hb
  have Q1 : Hid (Blk u (w.heap.size + 1) [.int .i64 0, .int .i64 0, .slice none 0 0] 30) := Q0.out.below hb
  have I1 : Hid (IsI u p3 M (w.heap.size + 2)) := by simp only [World.size_alloc] at hI; exact hI
  clear hb Q0 hI
  have lq : w.heap.size + 1 < u.heap.size := blk_lt Q1.out
  have qc0 : u.cell? ⟨(w.heap.size + 1), 0, none⟩ = some (.int .i64 0) := Q1.out.cell 0
  have qf0 : u.frozen? ⟨(w.heap.size + 1), 0, none⟩ = false := Q1.out.free 0
  have qc1 : u.cell? ⟨(w.heap.size + 1), 1, none⟩ = some (.int .i64 0) := Q1.out.cell 1
  have qf1 : u.frozen? ⟨(w.heap.size + 1), 1, none⟩ = false := Q1.out.free 1
  have qc2 : u.cell? ⟨(w.heap.size + 1), 2, none⟩ = some (.slice none 0 0) := Q1.out.cell 2
  have qf2 : u.frozen? ⟨(w.heap.size + 1), 2, none⟩ = false := Q1.out.free 2
  go_wp2_with fail
  change bodyPost _ _ _ _ _ (World.setCells u (w.heap.size + 1) 0 [.int .i64 q, .int .i64 0, .slice p3 m c3])
  have hr := run_loadVar_mid (P := Try.prog) (World.setCells u (w.heap.size + 1) 0 [.int .i64 q, .int .i64 0, .slice p3 m c3]) (w.heap.size + 1) 0 30 [.int .i64 q, .int .i64 0, .slice p3 m c3] _ (World.rangeAt_setCells_same _ (w.heap.size + 1) 0 [.int .i64 q, .int .i64 0, .slice p3 m c3] (show World.there u (w.heap.size + 1) 0 3 from Q1.out.there)) Try.underlying30 rfl refq_info
  refine bodyPost_ret (v := .tuple #[.agg #[.int .i64 q, .int .i64 0, .slice p3 m c3], .bool true]) ?_ rfl ⟨⟨p3, c3, rfl, (isi_scs I1.out (by omega) _ _).low (by omega)⟩, below_scs B1.out (by omega) _ _⟩
  exact results_pair Try.results16 _ _ _ _ _ _ rfl rfl hr
/-- the document's Tick is the queue's -/
theorem rtck_any (S : Qu) (g : Good S) (p : Option Addr) (c : Nat) (base : Nat) (w : World) (hbs : base ≤ w.heap.size) (hI : IsI w p S.L base) :
    Calls Try.prog 16 #[.agg #[.int .i64 S.q, .int .i64 S.t, .slice p S.L.length c]] w fun e w' => (∃ p' c', e = .returned (.tuple #[.agg #[.int .i64 (tckS S).q, .int .i64 (tckS S).t, .slice p' (tckS S).L.length c'], .bool (tckB S)]) ∧ IsI w' p' (tckS S).L base) ∧ Below w.heap.size w w' := by
  have few := g.few
  have t0 := g.t0
  have t1 := g.t1
  have q1 := g.q1
  obtain ⟨q, t, M⟩ := S
  simp only at few t0 t1 q1 hI ⊢
  by_cases z : M.length = 0
  · have e : M = [] := List.length_eq_zero_iff.1 z
    subst e
    refine (rtck0 q t p c w).mono ?_
    rintro e w' ⟨rfl, hb⟩
    exact ⟨⟨p, c, rfl, hI.below hb⟩, hb⟩
  · rcases tck_cases (q := q) (t := t) (L := M) (by omega) with ⟨c1, e1, e2⟩ | ⟨c1, e1, e2⟩
    · rw [e1, e2]
      refine (rtck1 q t p M.length c z t0 c1 q1 w).mono ?_
      rintro e w' ⟨rfl, hb⟩
      exact ⟨⟨p, c, rfl, hI.below hb⟩, hb⟩
    · rw [e1, e2]
      have yl : (ylL M).length = M.length := by rw [← rowY_all, rowY_len]
      simp only [yl]
      refine (rtck2 q t p M.length c z t0 c1 (by omega) w (ylL M) M.length (fun W hb => ryld_raw q (t + 1) p c M (by omega) base W (hI.below hb))).mono ?_
      rintro e w' ⟨⟨p', c', e3, i3⟩, hb⟩
      exact ⟨⟨p', c', e3, i3.low hbs⟩, hb⟩
end Go.Proofs.Ytcamghafjgjgdaa
