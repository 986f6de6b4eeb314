/- The document's queue: Add. -/
import Derived.Test.YtcamghafjgjgdaaJ1
namespace Go.Proofs.Ytcamghafjgjgdaa
open Go.ChangeShapes Go.WideShapes Go.ChangeAt Go.RowKit Go.Maps
set_option linter.unusedSimpArgs false
set_option linter.unusedVariables false

theorem below_scs {n b : Nat} {w X : World} (h : Below n w X) (hb : n ≤ b) : ∀ (vs : List Value) (o : Nat), Below n w (X.setCells b o vs) := fun vs => by
  induction vs generalizing X with
  | nil => intro o; exact h
  | cons v r ih => intro o; rw [World.setCells]; exact ih (h.setCell hb v) _
theorem isi_scs {X : World} {p : Option Addr} {M : List Int} {base b : Nat} (h : IsI X p M base) (hb : b < base) : ∀ (vs : List Value) (o : Nat), IsI (X.setCells b o vs) p M base := fun vs => by
  induction vs generalizing X with
  | nil => intro o; exact h
  | cons v r ih => intro o; rw [World.setCells]; exact ih (h.kb (Kb.set X b o v) hb) _
theorem IsI.low {w : World} {p : Option Addr} {M : List Int} {a b : Nat} (h : IsI w p M a) (hb : b ≤ a) : IsI w p M b := fun i hi => by
  obtain ⟨g, e, l1, l2, c⟩ := h i hi
  exact ⟨g, e, by omega, l2, c⟩
theorem wpList_app {P : Program} {ops : Array Oper} {rest : List Oper} {o : Oper} {a : Act} {w : World} {Q : Exit → Act → World → Prop} (hgd : o.guard = none) (s x : Operand) (t : TypeId)
    (ho : o.op = .call { callee := .builtin .append, args := #[s, x], argTypes := #[t, t] }) (vs vx : Value) (hs : a.eval s = vs) (hx : a.eval x = vx) (v' : Value) (w1 : World)
    (hr : (Builtin.append_ #[t, t] o.type #[vs, vx]).run P w = .ok v' w1) (h : wpList P ops Q rest (a.put o.dst v') w1) : wpList P ops Q (o :: rest) a w := by
  refine wpList_plain hgd fun K hK => ?_
  unfold Oper.wp execOp
  simp only [ho, resolve, invoke, builtin, Sem.run_bind, Sem.run_pure, Result.andThen_ok, List.map_toArray, List.map_cons, List.map_nil, hs, hx, hr]
  exact hK _ _ h
set_option maxHeartbeats 2000000 in
theorem radd1 (q t x : Int) (p : Option Addr) (n c : Nat) (hx : x < 0 ∨ 15 < x) (w : World) :
    Calls Try.prog 11 #[.agg #[.int .i64 q, .int .i64 t, .slice p n c], .int .i64 x] w fun e w' => e = .returned (.tuple #[.agg #[.int .i64 q, .int .i64 t, .slice p n c], .int .i64 1]) ∧ Below w.heap.size w w' := by
  by_cases c1 : x < 0
  · have d1 : decide (x < 0) = true := by simp [c1]
    go_enter Try.func11, Try.ntmps11
    go_wp2_with fail
    go_returns
    exact ⟨rfl, Go.Joins.below_alloc2 _ _ _⟩
  · have d1 : decide (x < 0) = false := by simp; omega
    have d2 : decide (15 < x) = true := by simp; omega
    go_enter Try.func11, Try.ntmps11
    go_wp2_with fail
    go_returns
    exact ⟨rfl, Go.Joins.below_alloc2 _ _ _⟩
set_option maxHeartbeats 2000000 in
theorem radd6 (q t x : Int) (p : Option Addr) (n c : Nat) (h0 : 0 ≤ x) (h1 : x ≤ 15) (w : World)
    (HC : Hid (∀ W : World, Below w.heap.size w W → Calls Try.prog 24 #[.agg #[.int .i64 q, .int .i64 t, .slice p n c], .int .i64 x] W fun e w' => e = .returned (.bool true) ∧ Below W.heap.size W w')) :
    Calls Try.prog 11 #[.agg #[.int .i64 q, .int .i64 t, .slice p n c], .int .i64 x] w fun e w' => e = .returned (.tuple #[.agg #[.int .i64 q, .int .i64 t, .slice p n c], .int .i64 6]) ∧ Below w.heap.size w w' := by
  have d1 : decide (x < 0) = false := by simp; omega
  have d2 : decide (15 < x) = false := by simp; omega
  have P0 : Hid (Blk ((w.alloc (.cells #[.int .i64 q, .int .i64 t, .slice p n c] 30)).alloc (.cells #[.int .i64 0, .int .i64 0, .slice none 0 0] 30)) w.heap.size [.int .i64 q, .int .i64 t, .slice p n c] 30) := (Blk.made w _ _).below (Go.Joins.below_alloc1 _ _)
  have Q0 : Hid (Blk ((w.alloc (.cells #[.int .i64 q, .int .i64 t, .slice p n c] 30)).alloc (.cells #[.int .i64 0, .int .i64 0, .slice none 0 0] 30)) (w.heap.size + 1) [.int .i64 0, .int .i64 0, .slice none 0 0] 30) := by
    have := Blk.made (w.alloc (.cells #[.int .i64 q, .int .i64 t, .slice p n c] 30)) [.int .i64 0, .int .i64 0, .slice none 0 0] 30
    rw [World.size_alloc] at this; exact this
  go_enter Try.func11, Try.ntmps11
  go_wp2_with fail
  refine (HC.out _ (Go.Joins.below_alloc2 _ _ _)).mono ?_
  rintro e u ⟨rfl, hb⟩
  have B1 : Hid (Below w.heap.size w u) := below_then (Go.Joins.below_alloc2 _ _ _) hb
  have P1 : Hid (Blk u w.heap.size [.int .i64 q, .int .i64 t, .slice p n c] 30) := P0.out.below hb
  have Q1 : Hid (Blk u (w.heap.size + 1) [.int .i64 0, .int .i64 0, .slice none 0 0] 30) := Q0.out.below hb
  clear hb P0 Q0
  have lp : w.heap.size < u.heap.size := blk_lt P1.out
  have lq : w.heap.size + 1 < u.heap.size := blk_lt Q1.out
  have pc0 : u.cell? ⟨w.heap.size, 0, none⟩ = some (.int .i64 q) := P1.out.cell 0
  have pc1 : u.cell? ⟨w.heap.size, 1, none⟩ = some (.int .i64 t) := P1.out.cell 1
  have pc2 : u.cell? ⟨w.heap.size, 2, none⟩ = some (.slice p n c) := P1.out.cell 2
  have qc0 : u.cell? ⟨(w.heap.size + 1), 0, none⟩ = some (.int .i64 0) := Q1.out.cell 0
  have qf0 : u.frozen? ⟨(w.heap.size + 1), 0, none⟩ = false := Q1.out.free 0
  have qc1 : u.cell? ⟨(w.heap.size + 1), 1, none⟩ = some (.int .i64 0) := Q1.out.cell 1
  have qf1 : u.frozen? ⟨(w.heap.size + 1), 1, none⟩ = false := Q1.out.free 1
  have qc2 : u.cell? ⟨(w.heap.size + 1), 2, none⟩ = some (.slice none 0 0) := Q1.out.cell 2
  have qf2 : u.frozen? ⟨(w.heap.size + 1), 2, none⟩ = false := Q1.out.free 2
  go_wp2_with fail
  change bodyPost _ _ _ _ _ (World.setCells u (w.heap.size + 1) 0 [.int .i64 q, .int .i64 t, .slice p n c])
  have hr := run_loadVar_mid (P := Try.prog) (World.setCells u (w.heap.size + 1) 0 [.int .i64 q, .int .i64 t, .slice p n c]) (w.heap.size + 1) 0 30 [.int .i64 q, .int .i64 t, .slice p n c] _ (World.rangeAt_setCells_same _ (w.heap.size + 1) 0 [.int .i64 q, .int .i64 t, .slice p n c] (show World.there u (w.heap.size + 1) 0 3 from Q1.out.there)) Try.underlying30 rfl refq_info
  refine bodyPost_ret (v := .tuple #[.agg #[.int .i64 q, .int .i64 t, .slice p n c], .int .i64 6]) ?_ rfl ⟨rfl, below_scs B1.out (by omega) _ _⟩
  exact results_pair Try.results11 _ _ _ _ _ _ rfl rfl hr
set_option maxHeartbeats 4000000 in
theorem radd0 (q t x : Int) (p : Option Addr) (c : Nat) (M : List Int) (hM : M.length ≤ 100) (base : Nat) (h0 : 0 ≤ x) (h1 : x ≤ 15) (w : World) (hI : IsI w p M base)
    (HC : Hid (∀ W : World, Below w.heap.size w W → Calls Try.prog 24 #[.agg #[.int .i64 q, .int .i64 t, .slice p M.length c], .int .i64 x] W fun e w' => e = .returned (.bool false) ∧ Below W.heap.size W w')) :
    Calls Try.prog 11 #[.agg #[.int .i64 q, .int .i64 t, .slice p M.length c], .int .i64 x] w fun e w' => (∃ p' c', e = .returned (.tuple #[.agg #[.int .i64 q, .int .i64 t, .slice p' (M.length + 1) c'], .int .i64 0]) ∧ IsI w' p' (M ++ [x]) w.heap.size) ∧ Below w.heap.size w w' := by
  have d1 : decide (x < 0) = false := by simp; omega
  have d2 : decide (15 < x) = false := by simp; omega
  have HI : Hid (IsI w p M base) := hI
  have HA : Hid (∀ W : World, IsI W p M base → ∃ v W2, (Builtin.append_ #[28, 28] 28 #[.slice (some ⟨W.heap.size, 0, none⟩) 0 0, .slice p M.length c]).run Try.prog (W.alloc (.cells #[] 3)) = .ok v W2 ∧ OwnI W2 W.heap.size v M ∧ Below W.heap.size W W2) := fun W h => app_first W.heap.size p c M (by omega) base W h (Nat.le_refl _)
  have HB2 : Hid (∀ (b : Nat) (v : Value) (W : World), OwnI W b v M → b ≤ W.heap.size → ∃ v' W2, (Builtin.append_ #[28, 28] 28 #[v, .slice (some ⟨W.heap.size, 0, none⟩) 1 1]).run Try.prog (W.alloc (.cells #[.int .i64 x] 3)) = .ok v' W2 ∧ OwnI W2 b v' (M ++ [x]) ∧ (W.alloc (.cells #[.int .i64 x] 3)).grownBy W2 v.ownBlock) := fun b v W h hb => app_next b v M x (by omega) W h hb
  have ML : Hid ((M ++ [x]).length = M.length + 1) := by show _ = _; simp
  clear hI hM
  obtain ⟨n, hn⟩ : ∃ n, n = M.length := ⟨_, rfl⟩
  rw [← hn] at HA HC ML ⊢
  clear hn
  have P0 : Hid (Blk ((w.alloc (.cells #[.int .i64 q, .int .i64 t, .slice p n c] 30)).alloc (.cells #[.int .i64 0, .int .i64 0, .slice none 0 0] 30)) w.heap.size [.int .i64 q, .int .i64 t, .slice p n c] 30) := (Blk.made w _ _).below (Go.Joins.below_alloc1 _ _)
  have Q0 : Hid (Blk ((w.alloc (.cells #[.int .i64 q, .int .i64 t, .slice p n c] 30)).alloc (.cells #[.int .i64 0, .int .i64 0, .slice none 0 0] 30)) (w.heap.size + 1) [.int .i64 0, .int .i64 0, .slice none 0 0] 30) := by
    have := Blk.made (w.alloc (.cells #[.int .i64 q, .int .i64 t, .slice p n c] 30)) [.int .i64 0, .int .i64 0, .slice none 0 0] 30
    rw [World.size_alloc] at this; exact this
  go_enter Try.func11, Try.ntmps11
  go_wp2_with fail
  refine (HC.out _ (Go.Joins.below_alloc2 _ _ _)).mono ?_
  rintro e u ⟨rfl, hb⟩
  have B1 : Hid (Below w.heap.size w u) := below_then (Go.Joins.below_alloc2 _ _ _) hb
  have P1 : Hid (Blk u w.heap.size [.int .i64 q, .int .i64 t, .slice p n c] 30) := P0.out.below hb
  have Q1 : Hid (Blk u (w.heap.size + 1) [.int .i64 0, .int .i64 0, .slice none 0 0] 30) := Q0.out.below hb
  clear hb P0 Q0
  have lp : w.heap.size < u.heap.size := blk_lt P1.out
  have lq : w.heap.size + 1 < u.heap.size := blk_lt Q1.out
  obtain ⟨v, W2, r1, o1, b1⟩ := HA.out u (HI.out.below B1.out)
  have B2 : Hid (Below w.heap.size w W2) := below_then B1.out b1
  have P2 : Hid (Blk W2 w.heap.size [.int .i64 q, .int .i64 t, .slice p n c] 30) := P1.out.below b1
  have Q2 : Hid (Blk W2 (w.heap.size + 1) [.int .i64 0, .int .i64 0, .slice none 0 0] 30) := Q1.out.below b1
  obtain ⟨v2, W3, r2, o2, g2⟩ := HB2.out u.heap.size v W2 o1 b1.size
  have ow := o1.base
  have K3 : Hid (Below w.heap.size w W3) := below_grown (below_new B2.out _) ow (by omega) g2
  have P3 : Hid (Blk W3 w.heap.size [.int .i64 q, .int .i64 t, .slice p n c] 30) := (g2.block w.heap.size (by rw [World.size_alloc]; have := blk_lt P2.out; omega) (fun e => by have := ow _ e.symm; omega)).trans (P2.out.below (Go.Joins.below_alloc1 _ _))
  have Q3 : Hid (Blk W3 (w.heap.size + 1) [.int .i64 0, .int .i64 0, .slice none 0 0] 30) := (g2.block (w.heap.size + 1) (by rw [World.size_alloc]; have := blk_lt Q2.out; omega) (fun e => by have := ow _ e.symm; omega)).trans (Q2.out.below (Go.Joins.below_alloc1 _ _))
  obtain ⟨p3, c3, hv3, i3⟩ := o2.read
  rw [ML.out] at hv3
  subst hv3
  have I3 : Hid (IsI W3 p3 (M ++ [x]) (w.heap.size + 2)) := i3.low (by omega)
  clear o1 o2 b1 g2 ow i3 HA HB2
  have lp3 : w.heap.size < W3.heap.size := blk_lt P3.out
  have lq3 : w.heap.size + 1 < W3.heap.size := blk_lt Q3.out
  have pc0 : u.cell? ⟨w.heap.size, 0, none⟩ = some (.int .i64 q) := P1.out.cell 0
  have pc1 : u.cell? ⟨w.heap.size, 1, none⟩ = some (.int .i64 t) := P1.out.cell 1
  have pc2 : u.cell? ⟨w.heap.size, 2, none⟩ = some (.slice p n c) := P1.out.cell 2
  have ppc0 : W3.cell? ⟨w.heap.size, 0, none⟩ = some (.int .i64 q) := P3.out.cell 0
  have ppf0 : W3.frozen? ⟨w.heap.size, 0, none⟩ = false := P3.out.free 0
  have ppc1 : W3.cell? ⟨w.heap.size, 1, none⟩ = some (.int .i64 t) := P3.out.cell 1
  have ppf1 : W3.frozen? ⟨w.heap.size, 1, none⟩ = false := P3.out.free 1
  have ppc2 : W3.cell? ⟨w.heap.size, 2, none⟩ = some (.slice p n c) := P3.out.cell 2
  have ppf2 : W3.frozen? ⟨w.heap.size, 2, none⟩ = false := P3.out.free 2
  have qc0 : W3.cell? ⟨(w.heap.size + 1), 0, none⟩ = some (.int .i64 0) := Q3.out.cell 0
  have qf0 : W3.frozen? ⟨(w.heap.size + 1), 0, none⟩ = false := Q3.out.free 0
  have qc1 : W3.cell? ⟨(w.heap.size + 1), 1, none⟩ = some (.int .i64 0) := Q3.out.cell 1
  have qf1 : W3.frozen? ⟨(w.heap.size + 1), 1, none⟩ = false := Q3.out.free 1
  have qc2 : W3.cell? ⟨(w.heap.size + 1), 2, none⟩ = some (.slice none 0 0) := Q3.out.cell 2
  have qf2 : W3.frozen? ⟨(w.heap.size + 1), 2, none⟩ = false := Q3.out.free 2
  go_wp2_with (first | (at_builtin; refine wpList_app rfl _ _ 28 rfl (.slice (some ⟨u.heap.size, 0, none⟩) 0 0) (.slice p n c) rfl rfl v W2 r1 ?_) | (at_builtin; refine wpList_app rfl _ _ 28 rfl v (.slice (some ⟨W2.heap.size, 0, none⟩) 1 1) rfl rfl (.slice p3 (n + 1) c3) W3 r2 ?_))
  have QF : Hid (Blk (W3.setCell ⟨w.heap.size, 2, none⟩ (.slice p3 (n + 1) c3)) (w.heap.size + 1) [.int .i64 0, .int .i64 0, .slice none 0 0] 30) := Q3.out.far _ _ (by omega)
  change bodyPost _ _ _ _ _ (World.setCells (W3.setCell ⟨w.heap.size, 2, none⟩ (.slice p3 (n + 1) c3)) (w.heap.size + 1) 0 [.int .i64 q, .int .i64 t, .slice p3 (n + 1) c3])
  have hr := run_loadVar_mid (P := Try.prog) (World.setCells (W3.setCell ⟨w.heap.size, 2, none⟩ (.slice p3 (n + 1) c3)) (w.heap.size + 1) 0 [.int .i64 q, .int .i64 t, .slice p3 (n + 1) c3]) (w.heap.size + 1) 0 30 [.int .i64 q, .int .i64 t, .slice p3 (n + 1) c3] _ (World.rangeAt_setCells_same _ (w.heap.size + 1) 0 [.int .i64 q, .int .i64 t, .slice p3 (n + 1) c3] (show World.there (W3.setCell ⟨w.heap.size, 2, none⟩ (.slice p3 (n + 1) c3)) (w.heap.size + 1) 0 3 from QF.out.there)) Try.underlying30 rfl refq_info
  refine bodyPost_ret (v := .tuple #[.agg #[.int .i64 q, .int .i64 t, .slice p3 (n + 1) c3], .int .i64 0]) ?_ rfl ⟨⟨p3, c3, rfl, (isi_scs (I3.out.kb (Kb.set _ _ _ _) (by omega)) (by omega) _ _).low (by omega)⟩, below_scs (K3.out.setCell (Nat.le_refl _) _) (by omega) _ _⟩
  exact results_pair Try.results11 _ _ _ _ _ _ rfl rfl hr
/-- the document's Add is the queue's -/
theorem radd_any (S : Qu) (x : Int) (g : Good S) (p : Option Addr) (c : Nat) (base : Nat) (w : World) (hbs : base ≤ w.heap.size) (hI : IsI w p S.L base) :
    Calls Try.prog 11 #[.agg #[.int .i64 S.q, .int .i64 S.t, .slice p S.L.length c], .int .i64 x] w fun e w' => (∃ p' c', e = .returned (.tuple #[.agg #[.int .i64 (addS S x).q, .int .i64 (addS S x).t, .slice p' (addS S x).L.length c'], .int .i64 (addE S x)]) ∧ IsI w' p' (addS S x).L base) ∧ Below w.heap.size w w' := by
  have few := g.few
  by_cases c1 : x < 0 ∨ 16 ≤ x
  · rw [addE, addS, if_pos c1, if_pos c1]
    refine (radd1 S.q S.t x p S.L.length c (by omega) w).mono ?_
    rintro e w' ⟨rfl, hb⟩
    exact ⟨⟨p, c, rfl, hI.below hb⟩, hb⟩
  · rw [addE, addS, if_neg c1, if_neg c1]
    have HC := fun (W : World) (hb : Below w.heap.size w W) => has_any S.q S.t x p c S.L base (by omega) W (hI.below hb)
    by_cases m : x ∈ S.L
    · rw [if_pos m, if_pos m]
      rw [decide_eq_true m] at HC
      refine (radd6 S.q S.t x p S.L.length c (by omega) (by omega) w HC).mono ?_
      rintro e w' ⟨rfl, hb⟩
      exact ⟨⟨p, c, rfl, hI.below hb⟩, hb⟩
    · rw [if_neg m, if_neg m]
      rw [decide_eq_false m] at HC
      have := radd0 S.q S.t x p c S.L (by omega) base (by omega) (by omega) w hI HC
      simp only [List.length_append, List.length_singleton]
      exact this.mono (fun e w' h => ⟨by obtain ⟨p', c', e1, i1⟩ := h.1; exact ⟨p', c', e1, i1.low hbs⟩, h.2⟩)
end Go.Proofs.Ytcamghafjgjgdaa
