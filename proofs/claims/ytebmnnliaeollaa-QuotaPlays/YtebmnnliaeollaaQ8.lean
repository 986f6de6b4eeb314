/- Containers: the laws awake; a row of containers. -/
import Derived.Test.YtebmnnliaeollaaQ7
namespace Go.Proofs.Ytebmnnliaeollaa
open Go.ChangeShapes Go.WideShapes Go.ChangeAt Go.RowKit Go.Maps
set_option linter.unusedSimpArgs false
set_option linter.unusedVariables false

/-- a tree of its own that holds what it should -/
def OwnG (w W : World) (b : Nat) (T : Nat → Nd) (root : Int) : Prop := Own w W b T ∧ Good T root
theorem OwnG.next {w W W' : World} {b : Nat} {T T' : Nat → Nd} {root : Int} (h : OwnG w W b T root) (hT : IsTree W' b T') (hg : W.grownBy W' (some b)) (g : Good T' root) : OwnG w W' b T' root := ⟨h.1.next hT hg, g⟩
theorem OwnG.grow {w W W' : World} {b : Nat} {T : Nat → Nd} {root : Int} (h : OwnG w W b T root) (hb : Below W.heap.size W W') : OwnG w W' b T root := ⟨h.1.grow hb, h.2⟩
def aw1 : Nat → Nd := childT (rootT 10) 0 4
def aw2 : Nat → Nd := chargeT aw1 1 3
def aw3 : Nat → Nd := chargeT aw2 1 2
def aw4 : Nat → Nd := chargeT aw3 0 7
theorem g0 : Good (rootT 10) 10 := root_good 10 (by omega) (by omega)
theorem g1 : Good aw1 10 := g0.child 0 4
theorem g2 : Good aw2 10 := g1.charge 1 3
theorem g3 : Good aw3 10 := g2.charge 1 2
theorem g4 : Good aw4 10 := g3.charge 0 7
theorem v0 : childI (rootT 10) 0 4 = 1 := by decide +kernel
theorem v0' : childN (rootT 10) 0 4 = 0 := by decide +kernel
theorem v1 : mayN aw1 1 3 = 0 := by decide +kernel
theorem v2 : mayN aw2 1 2 = 8 := by decide +kernel
theorem v3 : mayN aw3 0 7 = 8 := by decide +kernel
theorem v4 : endN aw4 1 = 11 := by decide +kernel
set_option maxHeartbeats 1000000 in
theorem awake_any (w : World) : Calls Try.prog 5 #[] w fun e w' => e = .returned (.bool true) ∧ Below w.heap.size w w' := by
  have N : Hid (∀ W : World, Calls Try.prog 4 #[.int .i64 10] W fun e w' => e = .returned (.tuple #[.pointer (some ⟨W.heap.size, 0, none⟩), .int .i64 0]) ∧ Own W w' W.heap.size (rootT 10)) := fun W => new_ok 10 (by omega) (by omega) W
  have C : Hid (∀ W : World, IsTree W w.heap.size (rootT 10) → Calls Try.prog 12 #[.pointer (some ⟨w.heap.size, 0, none⟩), .int .i64 0, .int .i64 4] W fun e w' => e = .returned (.tuple #[.int .i64 1, .int .i64 0]) ∧ IsTree w' w.heap.size aw1 ∧ W.grownBy w' (some w.heap.size)) := fun W h => by
    have := child_any w.heap.size _ g0.okT 0 4 W h
    rw [v0, v0'] at this; exact this
  have C1 : Hid (∀ W : World, IsTree W w.heap.size aw1 → Calls Try.prog 13 #[.pointer (some ⟨w.heap.size, 0, none⟩), .int .i64 1, .int .i64 3] W fun e w' => e = .returned (.int .i64 0) ∧ IsTree w' w.heap.size aw2 ∧ W.grownBy w' (some w.heap.size)) := fun W h => by
    have := charge_any w.heap.size _ g1.okT 1 3 W h
    rw [v1] at this; exact this
  have C2 : Hid (∀ W : World, IsTree W w.heap.size aw2 → Calls Try.prog 13 #[.pointer (some ⟨w.heap.size, 0, none⟩), .int .i64 1, .int .i64 2] W fun e w' => e = .returned (.int .i64 8) ∧ IsTree w' w.heap.size aw3 ∧ W.grownBy w' (some w.heap.size)) := fun W h => by
    have := charge_any w.heap.size _ g2.okT 1 2 W h
    rw [v2] at this; exact this
  have C3 : Hid (∀ W : World, IsTree W w.heap.size aw3 → Calls Try.prog 13 #[.pointer (some ⟨w.heap.size, 0, none⟩), .int .i64 0, .int .i64 7] W fun e w' => e = .returned (.int .i64 8) ∧ IsTree w' w.heap.size aw4 ∧ W.grownBy w' (some w.heap.size)) := fun W h => by
    have := charge_any w.heap.size _ g3.okT 0 7 W h
    rw [v3] at this; exact this
  have C4 : Hid (∀ W : World, IsTree W w.heap.size aw4 → Calls Try.prog 14 #[.pointer (some ⟨w.heap.size, 0, none⟩), .int .i64 1] W fun e w' => e = .returned (.int .i64 11) ∧ IsTree w' w.heap.size (endT aw4 1) ∧ W.grownBy w' (some w.heap.size)) := fun W h => by
    have := end_any w.heap.size _ g4.okT g4.parT 1 W h
    rw [v4] at this; exact this
  go_enter Try.func5, Try.ntmps5
  go_wp2_with fail
  refine (N.out _).mono ?_
  rintro e u0 ⟨rfl, h0⟩
  have M0 : Hid (Own w u0 w.heap.size (rootT 10)) := h0
  clear h0
  go_wp2_with fail
  refine (C.out _ M0.out.1).mono ?_
  rintro e u1 ⟨rfl, h1, h2⟩
  have M1 : Hid (Own w u1 w.heap.size aw1) := M0.out.next h1 h2
  clear h1 h2 M0
  go_wp2_with fail
  refine (C1.out _ M1.out.1).mono ?_
  rintro e u2 ⟨rfl, h1, h2⟩
  have M2 : Hid (Own w u2 w.heap.size aw2) := M1.out.next h1 h2
  clear h1 h2 M1
  go_wp2_with fail
  refine (C2.out _ M2.out.1).mono ?_
  rintro e u3 ⟨rfl, h1, h2⟩
  have M3 : Hid (Own w u3 w.heap.size aw3) := M2.out.next h1 h2
  clear h1 h2 M2
  go_wp2_with fail
  refine (C3.out _ M3.out.1).mono ?_
  rintro e u4 ⟨rfl, h1, h2⟩
  have M4 : Hid (Own w u4 w.heap.size aw4) := M3.out.next h1 h2
  clear h1 h2 M3
  go_wp2_with fail
  refine (C4.out _ M4.out.1).mono ?_
  rintro e u5 ⟨rfl, h1, h2⟩
  have M5 : Hid (Own w u5 w.heap.size (endT aw4 1)) := M4.out.next h1 h2
  clear h1 h2 M4
  go_wp2_with fail
  go_ret
  exact ⟨rfl, M5.out.2.1⟩
/-- a row of i containers, each below the one ahead -/
def chT (root lent : Int) : Nat → Nat → Nd
  | 0 => rootT root
  | i + 1 => childT (chT root lent i) i lent
theorem ch_good (root lent : Int) (h0 : 0 ≤ root) (h1 : root ≤ 1048576) : ∀ i, Good (chT root lent i) root
  | 0 => root_good root h0 h1
  | i + 1 => (ch_good root lent h0 h1 i).child i lent
/-- what the row looks like -/
structure Row (T : Nat → Nd) (root lent : Int) (i : Nat) : Prop where
  root : T 0 = ⟨-1, root, 0, if i = 0 then 0 else lent, true⟩
  mid : ∀ k, 1 ≤ k → k ≤ i → T k = ⟨(k : Int) - 1, lent, 0, if k = i then 0 else lent, true⟩
  rest : ∀ k, i < k → k < 64 → T k = Nd.zero
theorem row_room {T : Nat → Nd} {root lent : Int} {i : Nat} (r : Row T root lent i) (h1 : lent ≤ root) (hi : i < 64) : (T i).live = true ∧ (i = 0 → (T i).room = root) ∧ (i ≠ 0 → (T i).room = lent) := by
  by_cases c : i = 0
  · subst c
    rw [r.root]
    refine ⟨rfl, fun _ => ?_, fun h => absurd rfl h⟩
    unfold Nd.room; simp
  · rw [r.mid i (by omega) (Nat.le_refl _)]
    refine ⟨rfl, fun h => absurd h c, fun _ => ?_⟩
    unfold Nd.room; simp
theorem get_nat (T : Nat → Nd) (k : Nat) (hk : k < 64) : getN T k = T k := by unfold getN; rw [if_pos (by omega), Int.toNat_natCast]
theorem row_next {T : Nat → Nd} {root lent : Int} {i : Nat} (r : Row T root lent i) (h0 : 0 ≤ lent) (h1 : lent ≤ root) (hi : i < 60) : childN T i lent = 0 ∧ childI T i lent = (i : Int) + 1 ∧ Row (childT T i lent) root lent (i + 1) := by
  obtain ⟨a1, a2, a3⟩ := row_room r h1 (by omega)
  have hm : mayN T i lent = 0 := by
    unfold mayN
    rw [get_nat T i (by omega), if_neg (by rw [a1]; simp), if_neg (by omega), if_neg]
    by_cases c : i = 0
    · rw [a2 c]; omega
    · rw [a3 c]; omega
  have hf : freeN T = ((i + 1 : Nat) : Int) := (idx_eq (T := T) (f := fun l => !l.live) (Or.inl ⟨i + 1, by omega, rfl, by rw [r.rest (i + 1) (by omega) (by omega)]; rfl, fun j hj => by
    by_cases c : j = 0
    · subst c; rw [r.root]; rfl
    · rw [r.mid j (by omega) (by omega)]; rfl⟩)).symm
  have hc : childN T i lent = 0 := by unfold childN; rw [if_pos hm, hf, if_neg (by omega)]
  refine ⟨hc, by unfold childI; rw [if_pos hc, hf]; omega, ?_⟩
  have ht : childT T i lent = putT (putT T (i + 1) (Nd.new i lent)) i ((T i).lend lent) := by unfold childT; rw [if_pos hc, hf, Int.toNat_natCast, Int.toNat_natCast]
  rw [ht]
  refine ⟨?_, ?_, ?_⟩
  · by_cases c : i = 0
    · subst c; rw [put_same, r.root]; simp [Nd.lend]
    · rw [put_other _ _ _ _ (fun e => c e.symm), put_other _ _ _ _ (by omega), r.root, if_neg c, if_neg (by omega)]
  · intro k k1 k2
    by_cases c : k = i
    · subst c; rw [put_same, r.mid k k1 (Nat.le_refl _), if_pos rfl, if_neg (by omega)]; simp [Nd.lend]
    · rw [put_other _ _ _ _ c]
      by_cases d : k = i + 1
      · subst d; rw [put_same, if_pos rfl]; unfold Nd.new; congr 1; omega
      · rw [put_other _ _ _ _ d, r.mid k k1 (by omega), if_neg c, if_neg d]
  · intro k k1 k2
    rw [put_other _ _ _ _ (by omega), put_other _ _ _ _ (by omega)]
    exact r.rest k (by omega) k2
theorem ch_row (root lent : Int) (h0 : 0 ≤ lent) (h1 : lent ≤ root) : ∀ i, i ≤ 60 → Row (chT root lent i) root lent i
  | 0, _ => ⟨by rw [if_pos rfl]; exact (put_same zT 0 ⟨-1, root, 0, 0, true⟩), fun k a b => by omega, fun k a _ => put_other _ _ _ _ (by omega)⟩
  | i + 1, h => (row_next (ch_row root lent h0 h1 i (by omega)) h0 h1 (by omega)).2.2
theorem chain_ok {T : Nat → Nd} {root lent use : Int} {n : Nat} (r : Row T root lent n) (h0 : 0 ≤ lent) (h1 : lent ≤ root) (n1 : 1 ≤ n) (n6 : n ≤ 60) (u0 : 0 ≤ use) (u1 : use ≤ lent) :
    mayN T n use = 0 ∧ (getN (chargeT T n use) n).room = lent - use ∧ (getN (chargeT T n use) 0).room = root - lent ∧ (2 ≤ n → mayN (chargeT T n use) 1 1 = 8) := by
  obtain ⟨a1, a2, a3⟩ := row_room r h1 (by omega)
  have hm : mayN T n use = 0 := by
    unfold mayN
    rw [get_nat T n (by omega), if_neg (by rw [a1]; simp), if_neg (by omega), a3 (by omega), if_neg (by omega)]
  have ht : chargeT T n use = putT T n ((T n).plus use) := by unfold chargeT; rw [if_pos hm, Int.toNat_natCast]
  refine ⟨hm, ?_, ?_, fun h2 => ?_⟩
  · rw [ht, get_nat _ n (by omega), put_same, r.mid n n1 (Nat.le_refl _), if_pos rfl]; unfold Nd.plus Nd.room; simp
  · rw [ht, show (0 : Int) = ((0 : Nat) : Int) from rfl, get_nat _ 0 (by omega), put_other _ _ _ _ (by omega), r.root, if_neg (by omega)]; unfold Nd.room; simp
  · unfold mayN
    rw [ht, show (1 : Int) = ((1 : Nat) : Int) from rfl, get_nat _ 1 (by omega), put_other _ _ _ _ (by omega), r.mid 1 (by omega) (by omega)]
    have e1 : ¬ (1 = n) := by omega
    unfold Nd.room; simp [e1]
theorem chain_no {T : Nat → Nd} {root lent use : Int} {n : Nat} (r : Row T root lent n) (h0 : 0 ≤ lent) (h1 : lent ≤ root) (n1 : 1 ≤ n) (n6 : n ≤ 60) (u0 : 0 ≤ use) (u1 : lent < use) :
    mayN T n use = 8 ∧ (getN (chargeT T n use) n).room = lent ∧ (getN (chargeT T n use) 0).room = root - lent ∧ (2 ≤ n → mayN (chargeT T n use) 1 1 = 8) := by
  obtain ⟨a1, a2, a3⟩ := row_room r h1 (by omega)
  have hm : mayN T n use = 8 := by
    unfold mayN
    rw [get_nat T n (by omega), if_neg (by rw [a1]; simp), if_neg (by omega), a3 (by omega), if_pos (by omega)]
  have ht : chargeT T n use = T := by unfold chargeT; rw [if_neg (by rw [hm]; decide)]
  refine ⟨hm, ?_, ?_, fun h2 => ?_⟩
  · rw [ht, get_nat _ n (by omega), a3 (by omega)]
  · rw [ht, show (0 : Int) = ((0 : Nat) : Int) from rfl, get_nat _ 0 (by omega), r.root, if_neg (by omega)]; unfold Nd.room; simp
  · unfold mayN
    rw [ht, show (1 : Int) = ((1 : Nat) : Int) from rfl, get_nat _ 1 (by omega), r.mid 1 (by omega) (by omega)]
    have e1 : ¬ (1 = n) := by omega
    unfold Nd.room; simp [e1]
theorem row_step_room {T : Nat → Nd} {root lent : Int} {i : Nat} (r : Row T root lent (i + 1)) (hi : i < 60) : (i = 0 → (getN T i).room = root - lent) ∧ (i ≠ 0 → (getN T i).room = 0) := by
  rw [get_nat T i (by omega)]
  constructor
  · intro c; subst c; rw [r.root, if_neg (by omega)]; unfold Nd.room; simp
  · intro c; rw [r.mid i (by omega) (by omega), if_neg (by omega)]; unfold Nd.room; simp
theorem args_stay {H : Type} {enc : TypeId × Value → H} {P : Program} {W W' : World} (hl : laidOutB P = true) (hb : Below W.heap.size W W') :
    ∀ {ts : List TypeId} {vs : List Value} {ds : List (DataW H)} {ps : List MemPlace}, (ts.all fun t => P.readableRec t && decide (t < P.types.size)) = true →
      DataW.TrodAll enc P W 0 (fun _ => true) true ts vs ds ps → (∀ x ∈ ps, x.block < W.heap.size) → DataW.TrodAll enc P W' 0 (fun b => decide (b < W.heap.size)) true ts vs ds ps
  | [], vs, ds, ps, _, h, _ => by
    obtain ⟨rfl, rfl, rfl⟩ := trodAll_nil h
    exact trodAll_mk0
  | t :: ts, vs, ds, ps, ha, h, hp => by
    obtain ⟨v, vs0, d, ds0, p, q, rfl, rfl, rfl, h0, r0⟩ := trodAll_cons h
    simp only [List.all_cons, Bool.and_eq_true, decide_eq_true_eq] at ha
    exact trodAll_cons_mk (Below.trod hl ha.1.1 ha.1.2 h0 hb (fun x hx => hp x (List.mem_append_left _ hx)))
      (args_stay hl hb (by simpa using ha.2) r0 (fun x hx => hp x (List.mem_append_right _ hx)))
end Go.Proofs.Ytebmnnliaeollaa
