/- Regions: a change of the laws, of lists that lie at a place or above. -/
import Derived.Test.YtngaodfajihmmaaG12
namespace Go.Proofs.Ytngaodfajihmmaa
open Go.ChangeShapes Go.WideShapes Go.ChangeAt Go.RowKit Go.Maps
set_option linter.unusedSimpArgs false
set_option linter.unusedVariables false

theorem IsL.weak {w : World} {base base' : Nat} {p : Option Addr} {L : List Rg} (h : IsL w base p L) (hb : base' ≤ base) : IsL w base' p L := fun i hi => by
  obtain ⟨g, e, l1, l2, c⟩ := h i hi
  exact ⟨g, e, by omega, l2, c⟩
theorem nil_isb (w : World) (base : Nat) : IsL w base none [] := fun i hi => absurd hi (Nat.not_lt_zero _)
theorem own_readb {w : World} {base : Nat} {v : Value} {L : List Rg} (h : OwnL w base v L) : ∃ p c, v = .slice p L.length c ∧ L.length ≤ c ∧ IsL w base p L := by
  obtain ⟨p, c, e, hi⟩ := own_read h
  refine ⟨p, c, e, ?_, hi⟩
  rcases h.2 with ⟨h1, h2⟩ | ⟨g, cap, cur, e1, e2, e3, e4, _⟩
  · omega
  · rw [e] at e1; cases e1; exact e4
theorem ans_readb {w' : World} {base : Nat} {v : Value} {er E : Int} {M : List Rg} (h : Ans w' base v er E M) : er = errA E M ∧ ∃ p c, v = .slice p (outL E M).length c ∧ (outL E M).length ≤ c ∧ IsL w' base p (outL E M) := by
  unfold outL errA
  rcases h with ⟨h1, h2, h3⟩ | ⟨h1, ⟨h2, h3, h4⟩ | ⟨h2, h3, h4⟩⟩
  · rw [if_neg h1, if_neg h1]
    exact ⟨h2, none, 0, h3, Nat.le_refl _, nil_isb _ _⟩
  · rw [if_pos h1, if_pos h2, if_pos rfl]
    obtain ⟨p, c, e1, e2, e3⟩ := own_readb h4
    exact ⟨h3, p, c, e1, e2, e3⟩
  · rw [if_pos h1, if_neg (by omega), if_neg (by omega)]
    exact ⟨h3, none, 0, h4, Nat.le_refl _, nil_isb _ _⟩
theorem cut_outb (base : Nat) (p : Option Addr) (c : Nat) (L : List Rg) (hL : L.length ≤ 100) (qf qt : Int) (E : Int) (M : List Rg) (hE : errA (checkN L qf qt) (chg (fun _ => Rg.zero) qf qt L) = E) (hM : outL (checkN L qf qt) (chg (fun _ => Rg.zero) qf qt L) = M) (w : World) (h : IsL w base p L) (hbs : base ≤ w.heap.size) :
    Calls Try.prog 13 #[.slice p L.length c, rgV qf qt] w fun e w' => ∃ p' c', e = .returned (.tuple #[.slice p' M.length c', .int .i64 E]) ∧ M.length ≤ c' ∧ IsL w' base p' M ∧ Below w.heap.size w w' :=
  (cut_any base p c L hL qf qt w h).mono fun e w' ⟨v, er, h1, h2, h3⟩ => by
    obtain ⟨k1, p', c', k2, k3, k4⟩ := ans_readb h2
    rw [hE] at k1; rw [hM] at k2 k3 k4
    exact ⟨p', c', by rw [h1, k1, k2], k3, k4.weak hbs, h3⟩
theorem prot_outb (base : Nat) (p : Option Addr) (c : Nat) (L : List Rg) (hL : L.length ≤ 100) (qf qt : Int) (pa pb pc : Bool) (E : Int) (M : List Rg) (hE : errA (protN L qf qt) (chg (fun r => r.may pa pb pc) qf qt L) = E) (hM : outL (protN L qf qt) (chg (fun r => r.may pa pb pc) qf qt L) = M) (w : World) (h : IsL w base p L) (hbs : base ≤ w.heap.size) :
    Calls Try.prog 14 #[.slice p L.length c, rgV qf qt, pmV pa pb pc] w fun e w' => ∃ p' c', e = .returned (.tuple #[.slice p' M.length c', .int .i64 E]) ∧ M.length ≤ c' ∧ IsL w' base p' M ∧ Below w.heap.size w w' :=
  (prot_any base p c L hL qf qt pa pb pc w h).mono fun e w' ⟨v, er, h1, h2, h3⟩ => by
    obtain ⟨k1, p', c', k2, k3, k4⟩ := ans_readb h2
    rw [hE] at k1; rw [hM] at k2 k3 k4
    exact ⟨p', c', by rw [h1, k1, k2], k3, k4.weak hbs, h3⟩
theorem add_outb (base : Nat) (p : Option Addr) (c : Nat) (L : List Rg) (hL : L.length ≤ 100) (hc : L.length ≤ c) (r : Rg) (E : Int) (M : List Rg) (hE : errA (addN L r) (addL L r) = E) (hM : outL (addN L r) (addL L r) = M) (w : World) (h : IsL w base p L) (hbs : base ≤ w.heap.size) :
    Calls Try.prog 10 #[.slice p L.length c, r.val] w fun e w' => ∃ p' c', e = .returned (.tuple #[.slice p' M.length c', .int .i64 E]) ∧ M.length ≤ c' ∧ IsL w' base p' M ∧ Below w.heap.size w w' :=
  (add_any base p c L hL hc r w h).mono fun e w' ⟨v, er, h1, h2, h3⟩ => by
    obtain ⟨k1, p', c', k2, k3, k4⟩ := ans_readb h2
    rw [hE] at k1; rw [hM] at k2 k3 k4
    exact ⟨p', c', by rw [h1, k1, k2], k3, k4.weak hbs, h3⟩
set_option maxHeartbeats 4000000 in
theorem does_b (base : Nat) (p : Option Addr) (c : Nat) (L : List Rg) (hL : L.length ≤ 100) (hc : L.length ≤ c) (a : Ac) (w : World) (h : IsL w base p L) (hbs : base ≤ w.heap.size) :
    Calls Try.prog 25 #[.slice p L.length c, a.val] w fun e w' => ∃ p' c', e = .returned (.tuple #[.slice p' (actL L a).length c', .int .i64 (actE L a)]) ∧ (actL L a).length ≤ c' ∧ IsL w' base p' (actL L a) ∧ Below w.heap.size w w' := by
  have HI : Hid (IsL w base p L) := h
  have HC : Hid (L.length ≤ c) := hc
  obtain ⟨a1, a2, a3, a4, a5, a6, a7⟩ := a
  unfold actL actE actM Ac.rg
  simp only
  by_cases k1 : a1 = 1
  · have kb : (a1 == 1) = true := by simp [k1]
    simp only [if_pos k1]
    subst k1
    clear h
    obtain ⟨E, hE⟩ : ∃ E, errA (addN L ⟨a2, a3, a4, a5, a6, a7⟩) (addL L ⟨a2, a3, a4, a5, a6, a7⟩) = E := ⟨_, rfl⟩
    obtain ⟨M, hM⟩ : ∃ M, outL (addN L ⟨a2, a3, a4, a5, a6, a7⟩) (addL L ⟨a2, a3, a4, a5, a6, a7⟩) = M := ⟨_, rfl⟩
    have CC : Hid (∀ W : World, IsL W base p L → base ≤ W.heap.size → Calls Try.prog 10 #[.slice p L.length c, .agg #[.int .i64 a2, .int .i64 a3, .bool a4, .bool a5, .bool a6, .int .i64 a7]] W fun e w' => ∃ p' c', e = .returned (.tuple #[.slice p' M.length c', .int .i64 E]) ∧ M.length ≤ c' ∧ IsL w' base p' M ∧ Below W.heap.size W w') := fun W h hw => add_outb base p c L hL hc ⟨a2, a3, a4, a5, a6, a7⟩ E M hE hM W h hw
    rw [hE, hM]
    clear hE hM
    generalize hLn : L.length = nL at CC HC ⊢
    by_cases ez : E = 0
    · subst ez
      rw [if_pos rfl]
      generalize hMn : M.length = nM at CC ⊢
      go_enter Try.func25, Try.ntmps25
      go_wp2_with fail
      refine (CC.out _ (HI.out.below (Go.Joins.below_alloc2 _ _ _)) (by rw [World.size_alloc, World.size_alloc]; omega)).mono ?_
      rintro e u1 ⟨p1, c1, rfl, hc1, hi1, hb1⟩
      have B1 : Hid (Below w.heap.size w u1) := below_then (Go.Joins.below_alloc2 _ _ _) hb1
      have I1 : Hid (IsL u1 base p1 M) := hi1
      have C1 : Hid (nM ≤ c1) := hc1
      clear hb1 hi1 hc1
      go_wp2_with fail
      go_returns
      exact ⟨p1, c1, rfl, C1.out, I1.out, B1.out⟩
    · have eb : (E == 0) = false := by simp [ez]
      rw [if_neg ez, hLn]
      clear ez
      go_enter Try.func25, Try.ntmps25
      go_wp2_with fail
      refine (CC.out _ (HI.out.below (Go.Joins.below_alloc2 _ _ _)) (by rw [World.size_alloc, World.size_alloc]; omega)).mono ?_
      rintro e u1 ⟨p1, c1, rfl, hc1, hi1, hb1⟩
      have B1 : Hid (Below w.heap.size w u1) := below_then (Go.Joins.below_alloc2 _ _ _) hb1
      clear hb1 hi1 hc1
      go_wp2_with fail
      go_returns
      exact ⟨p, c, rfl, HC.out, HI.out.below B1.out, B1.out⟩
  have kb1 : (a1 == 1) = false := by simp [k1]
  simp only [if_neg k1]
  by_cases k2 : a1 = 2
  · simp only [if_pos k2]
    subst k2
    clear h k1
    obtain ⟨E, hE⟩ : ∃ E, errA (checkN L a2 a3) (chg (fun _ => Rg.zero) a2 a3 L) = E := ⟨_, rfl⟩
    obtain ⟨M, hM⟩ : ∃ M, outL (checkN L a2 a3) (chg (fun _ => Rg.zero) a2 a3 L) = M := ⟨_, rfl⟩
    have CC : Hid (∀ W : World, IsL W base p L → base ≤ W.heap.size → Calls Try.prog 13 #[.slice p L.length c, .agg #[.int .i64 a2, .int .i64 a3]] W fun e w' => ∃ p' c', e = .returned (.tuple #[.slice p' M.length c', .int .i64 E]) ∧ M.length ≤ c' ∧ IsL w' base p' M ∧ Below W.heap.size W w') := fun W h hw => cut_outb base p c L hL a2 a3 E M hE hM W h hw
    rw [hE, hM]
    clear hE hM
    generalize hLn : L.length = nL at CC HC ⊢
    by_cases ez : E = 0
    · subst ez
      rw [if_pos rfl]
      generalize hMn : M.length = nM at CC ⊢
      go_enter Try.func25, Try.ntmps25
      go_wp2_with fail
      refine (CC.out _ (HI.out.below (Go.Joins.below_alloc2 _ _ _)) (by rw [World.size_alloc, World.size_alloc]; omega)).mono ?_
      rintro e u1 ⟨p1, c1, rfl, hc1, hi1, hb1⟩
      have B1 : Hid (Below w.heap.size w u1) := below_then (Go.Joins.below_alloc2 _ _ _) hb1
      have I1 : Hid (IsL u1 base p1 M) := hi1
      have C1 : Hid (nM ≤ c1) := hc1
      clear hb1 hi1 hc1
      go_wp2_with fail
      go_returns
      exact ⟨p1, c1, rfl, C1.out, I1.out, B1.out⟩
    · have eb : (E == 0) = false := by simp [ez]
      rw [if_neg ez, hLn]
      clear ez
      go_enter Try.func25, Try.ntmps25
      go_wp2_with fail
      refine (CC.out _ (HI.out.below (Go.Joins.below_alloc2 _ _ _)) (by rw [World.size_alloc, World.size_alloc]; omega)).mono ?_
      rintro e u1 ⟨p1, c1, rfl, hc1, hi1, hb1⟩
      have B1 : Hid (Below w.heap.size w u1) := below_then (Go.Joins.below_alloc2 _ _ _) hb1
      clear hb1 hi1 hc1
      go_wp2_with fail
      go_returns
      exact ⟨p, c, rfl, HC.out, HI.out.below B1.out, B1.out⟩
  have kb2 : (a1 == 2) = false := by simp [k2]
  simp only [if_neg k2]
  by_cases k3 : a1 = 3
  · simp only [if_pos k3]
    subst k3
    clear h k1 k2
    obtain ⟨E, hE⟩ : ∃ E, errA (protN L a2 a3) (chg (fun r => r.may a4 a5 a6) a2 a3 L) = E := ⟨_, rfl⟩
    obtain ⟨M, hM⟩ : ∃ M, outL (protN L a2 a3) (chg (fun r => r.may a4 a5 a6) a2 a3 L) = M := ⟨_, rfl⟩
    have CC : Hid (∀ W : World, IsL W base p L → base ≤ W.heap.size → Calls Try.prog 14 #[.slice p L.length c, .agg #[.int .i64 a2, .int .i64 a3], .agg #[.bool a4, .bool a5, .bool a6]] W fun e w' => ∃ p' c', e = .returned (.tuple #[.slice p' M.length c', .int .i64 E]) ∧ M.length ≤ c' ∧ IsL w' base p' M ∧ Below W.heap.size W w') := fun W h hw => prot_outb base p c L hL a2 a3 a4 a5 a6 E M hE hM W h hw
    rw [hE, hM]
    clear hE hM
    generalize hLn : L.length = nL at CC HC ⊢
    by_cases ez : E = 0
    · subst ez
      rw [if_pos rfl]
      generalize hMn : M.length = nM at CC ⊢
      go_enter Try.func25, Try.ntmps25
      go_wp2_with fail
      refine (CC.out _ (HI.out.below (Go.Joins.below_alloc2 _ _ _)) (by rw [World.size_alloc, World.size_alloc]; omega)).mono ?_
      rintro e u1 ⟨p1, c1, rfl, hc1, hi1, hb1⟩
      have B1 : Hid (Below w.heap.size w u1) := below_then (Go.Joins.below_alloc2 _ _ _) hb1
      have I1 : Hid (IsL u1 base p1 M) := hi1
      have C1 : Hid (nM ≤ c1) := hc1
      clear hb1 hi1 hc1
      go_wp2_with fail
      go_returns
      exact ⟨p1, c1, rfl, C1.out, I1.out, B1.out⟩
    · have eb : (E == 0) = false := by simp [ez]
      rw [if_neg ez, hLn]
      clear ez
      go_enter Try.func25, Try.ntmps25
      go_wp2_with fail
      refine (CC.out _ (HI.out.below (Go.Joins.below_alloc2 _ _ _)) (by rw [World.size_alloc, World.size_alloc]; omega)).mono ?_
      rintro e u1 ⟨p1, c1, rfl, hc1, hi1, hb1⟩
      have B1 : Hid (Below w.heap.size w u1) := below_then (Go.Joins.below_alloc2 _ _ _) hb1
      clear hb1 hi1 hc1
      go_wp2_with fail
      go_returns
      exact ⟨p, c, rfl, HC.out, HI.out.below B1.out, B1.out⟩
  have kb3 : (a1 == 3) = false := by simp [k3]
  simp only [if_neg k3]
  rw [if_neg (by omega)]
  clear h k1 k2 k3
  generalize hLn : L.length = nL at HC ⊢
  go_enter Try.func25, Try.ntmps25
  go_wp2_with fail
  go_returns
  exact ⟨p, c, rfl, HC.out, HI.out.below (Go.Joins.below_alloc2 _ _ _), Go.Joins.below_alloc2 _ _ _⟩
end Go.Proofs.Ytngaodfajihmmaa
