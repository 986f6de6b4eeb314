/- Regions: awake; a change of the laws. -/
import Derived.Test.YtngaodfajihmmaaG10
namespace Go.Proofs.Ytngaodfajihmmaa
open Go.ChangeShapes Go.WideShapes Go.ChangeAt Go.RowKit Go.Maps
set_option linter.unusedSimpArgs false
set_option linter.unusedVariables false

theorem own_read2 {w : World} {base : Nat} {v : Value} {L : List Rg} (h : OwnL w base v L) : ∃ p c, v = .slice p L.length c ∧ L.length ≤ c ∧ IsL w 0 p L := by
  obtain ⟨p, c, e, hi⟩ := own_read h
  refine ⟨p, c, e, ?_, fun i q => by obtain ⟨g, a, b, d⟩ := hi i q; exact ⟨g, a, Nat.zero_le _, d⟩⟩
  rcases h.2 with ⟨h1, h2⟩ | ⟨g, cap, cur, e1, e2, e3, e4, _⟩
  · omega
  · rw [e] at e1; cases e1; exact e4
def errA (E : Int) (M : List Rg) : Int := if E = 0 then (if M.length ≤ 64 then 0 else 4) else E
def outL (E : Int) (M : List Rg) : List Rg := if errA E M = 0 then M else []
theorem nil_is (w : World) : IsL w 0 none [] := fun i hi => absurd hi (Nat.not_lt_zero _)
theorem ans_read {w' : World} {base : Nat} {v : Value} {er E : Int} {M : List Rg} (h : Ans w' base v er E M) : er = errA E M ∧ ∃ p c, v = .slice p (outL E M).length c ∧ (outL E M).length ≤ c ∧ IsL w' 0 p (outL E M) := by
  unfold outL errA
  rcases h with ⟨h1, h2, h3⟩ | ⟨h1, ⟨h2, h3, h4⟩ | ⟨h2, h3, h4⟩⟩
  · rw [if_neg h1, if_neg h1]
    exact ⟨h2, none, 0, h3, Nat.le_refl _, nil_is _⟩
  · rw [if_pos h1, if_pos h2, if_pos rfl]
    obtain ⟨p, c, e1, e2, e3⟩ := own_read2 h4
    exact ⟨h3, p, c, e1, e2, e3⟩
  · rw [if_pos h1, if_neg (by omega), if_neg (by omega)]
    exact ⟨h3, none, 0, h4, Nat.le_refl _, nil_is _⟩
theorem cut_out (p : Option Addr) (c : Nat) (L : List Rg) (hL : L.length ≤ 100) (qf qt : Int) (E : Int) (M : List Rg) (hE : errA (checkN L qf qt) (chg (fun _ => Rg.zero) qf qt L) = E) (hM : outL (checkN L qf qt) (chg (fun _ => Rg.zero) qf qt L) = M) (w : World) (h : IsL w 0 p L) :
    Calls Try.prog 13 #[.slice p L.length c, rgV qf qt] w fun e w' => ∃ p' c', e = .returned (.tuple #[.slice p' M.length c', .int .i64 E]) ∧ M.length ≤ c' ∧ IsL w' 0 p' M ∧ Below w.heap.size w w' :=
  (cut_any 0 p c L hL qf qt w h).mono fun e w' ⟨v, er, h1, h2, h3⟩ => by
    obtain ⟨k1, p', c', k2, k3, k4⟩ := ans_read h2
    rw [hE] at k1; rw [hM] at k2 k3 k4
    exact ⟨p', c', by rw [h1, k1, k2], k3, k4, h3⟩
theorem prot_out (p : Option Addr) (c : Nat) (L : List Rg) (hL : L.length ≤ 100) (qf qt : Int) (pa pb pc : Bool) (E : Int) (M : List Rg) (hE : errA (protN L qf qt) (chg (fun r => r.may pa pb pc) qf qt L) = E) (hM : outL (protN L qf qt) (chg (fun r => r.may pa pb pc) qf qt L) = M) (w : World) (h : IsL w 0 p L) :
    Calls Try.prog 14 #[.slice p L.length c, rgV qf qt, pmV pa pb pc] w fun e w' => ∃ p' c', e = .returned (.tuple #[.slice p' M.length c', .int .i64 E]) ∧ M.length ≤ c' ∧ IsL w' 0 p' M ∧ Below w.heap.size w w' :=
  (prot_any 0 p c L hL qf qt pa pb pc w h).mono fun e w' ⟨v, er, h1, h2, h3⟩ => by
    obtain ⟨k1, p', c', k2, k3, k4⟩ := ans_read h2
    rw [hE] at k1; rw [hM] at k2 k3 k4
    exact ⟨p', c', by rw [h1, k1, k2], k3, k4, h3⟩
theorem add_out (p : Option Addr) (c : Nat) (L : List Rg) (hL : L.length ≤ 100) (hc : L.length ≤ c) (r : Rg) (E : Int) (M : List Rg) (hE : errA (addN L r) (addL L r) = E) (hM : outL (addN L r) (addL L r) = M) (w : World) (h : IsL w 0 p L) :
    Calls Try.prog 10 #[.slice p L.length c, r.val] w fun e w' => ∃ p' c', e = .returned (.tuple #[.slice p' M.length c', .int .i64 E]) ∧ M.length ≤ c' ∧ IsL w' 0 p' M ∧ Below w.heap.size w w' :=
  (add_any 0 p c L hL hc r w h).mono fun e w' ⟨v, er, h1, h2, h3⟩ => by
    obtain ⟨k1, p', c', k2, k3, k4⟩ := ans_read h2
    rw [hE] at k1; rw [hM] at k2 k3 k4
    exact ⟨p', c', by rw [h1, k1, k2], k3, k4, h3⟩
def aw1 : List Rg := [⟨0, 4, true, false, false, 0⟩]
def aw2 : List Rg := [⟨0, 6, true, false, false, 0⟩]
def aw3 : List Rg := [⟨0, 1, true, false, false, 0⟩, ⟨2, 6, true, false, false, 0⟩]
set_option maxHeartbeats 2000000 in
theorem awake_any (w : World) : Calls Try.prog 16 #[] w fun e w' => e = .returned (.bool true) ∧ Below w.heap.size w w' := by
  have A1 : Hid (∀ W : World, Calls Try.prog 10 #[.slice none 0 0, .agg #[.int .i64 0, .int .i64 4, .bool true, .bool false, .bool false, .int .i64 0]] W fun e w' => ∃ p' c', e = .returned (.tuple #[.slice p' 1 c', .int .i64 0]) ∧ 1 ≤ c' ∧ IsL w' 0 p' aw1 ∧ Below W.heap.size W w') := fun W => add_out none 0 [] (by simp) (by simp) ⟨0, 4, true, false, false, 0⟩ 0 aw1 (by decide) rfl W (nil_is W)
  have A2 : Hid (∀ (p : Option Addr) (c : Nat), 1 ≤ c → ∀ W : World, IsL W 0 p aw1 → Calls Try.prog 10 #[.slice p 1 c, .agg #[.int .i64 4, .int .i64 6, .bool true, .bool false, .bool false, .int .i64 0]] W fun e w' => ∃ p' c', e = .returned (.tuple #[.slice p' 1 c', .int .i64 0]) ∧ 1 ≤ c' ∧ IsL w' 0 p' aw2 ∧ Below W.heap.size W w') := fun p c hc W h => add_out p c aw1 (by decide) hc ⟨4, 6, true, false, false, 0⟩ 0 aw2 (by decide) rfl W h
  have A3 : Hid (∀ (p : Option Addr) (c : Nat) (W : World), IsL W 0 p aw2 → Calls Try.prog 13 #[.slice p 1 c, .agg #[.int .i64 1, .int .i64 2]] W fun e w' => ∃ p' c', e = .returned (.tuple #[.slice p' 2 c', .int .i64 0]) ∧ 2 ≤ c' ∧ IsL w' 0 p' aw3 ∧ Below W.heap.size W w') := fun p c W h => cut_out p c aw2 (by decide) 1 2 0 aw3 (by decide) rfl W h
  go_enter Try.func16, Try.ntmps16
  go_wp2_with fail
  refine (A1.out _).mono ?_
  rintro e u1 ⟨p1, c1, rfl, hc1, hi1, hb1⟩
  have x0 : u1.cell? ⟨w.heap.size, 0, none⟩ = some (.bool true) := (hb1.cell (p := ⟨w.heap.size, 0, none⟩) (by simp)).trans (by simp)
  have x1 : u1.cell? ⟨w.heap.size, 1, none⟩ = some (.bool false) := (hb1.cell (p := ⟨w.heap.size, 1, none⟩) (by simp)).trans (by simp)
  have x2 : u1.cell? ⟨w.heap.size, 2, none⟩ = some (.bool false) := (hb1.cell (p := ⟨w.heap.size, 2, none⟩) (by simp)).trans (by simp)
  have lx : w.heap.size < u1.heap.size := Nat.lt_of_lt_of_le (by simp) hb1.size
  have B1 : Hid (Below w.heap.size w u1) := below_then (Go.Joins.below_alloc1 _ _) hb1
  have I1 : Hid (IsL u1 0 p1 aw1) := hi1
  have C1 : Hid (1 ≤ c1) := hc1
  clear hb1 hi1 hc1
  go_wp2_with fail
  refine (A2.out _ _ C1.out _ I1.out).mono ?_
  rintro e u2 ⟨p2, c2, rfl, hc2, hi2, hb2⟩
  have B2 : Hid (Below w.heap.size w u2) := below_then B1.out hb2
  have I2 : Hid (IsL u2 0 p2 aw2) := hi2
  clear hb2 hi2 hc2 x0 x1 x2
  go_wp2_with fail
  refine (A3.out _ _ _ I2.out).mono ?_
  rintro e u3 ⟨p3, c3, rfl, hc3, hi3, hb3⟩
  have B3 : Hid (Below w.heap.size w u3) := below_then B2.out hb3
  clear hb3 hi3 hc3
  go_wp2_with fail
  go_ret
  exact ⟨rfl, B3.out⟩
/-- a change of the laws -/
structure Ac where
  how : Int
  fr : Int
  til : Int
  w : Bool
  u : Bool
  x : Bool
  kd : Int
abbrev Ac.val (a : Ac) : Value := .agg #[.int .i64 a.how, .int .i64 a.fr, .int .i64 a.til, .bool a.w, .bool a.u, .bool a.x, .int .i64 a.kd]
def Ac.rg (a : Ac) : Rg := ⟨a.fr, a.til, a.w, a.u, a.x, a.kd⟩
def actE (L : List Rg) (a : Ac) : Int := if a.how = 1 then errA (addN L a.rg) (addL L a.rg) else if a.how = 2 then errA (checkN L a.fr a.til) (chg (fun _ => Rg.zero) a.fr a.til L) else if a.how = 3 then errA (protN L a.fr a.til) (chg (fun r => r.may a.w a.u a.x) a.fr a.til L) else 1
def actM (L : List Rg) (a : Ac) : List Rg := if a.how = 1 then outL (addN L a.rg) (addL L a.rg) else if a.how = 2 then outL (checkN L a.fr a.til) (chg (fun _ => Rg.zero) a.fr a.til L) else if a.how = 3 then outL (protN L a.fr a.til) (chg (fun r => r.may a.w a.u a.x) a.fr a.til L) else L
def actL (L : List Rg) (a : Ac) : List Rg := if actE L a = 0 then actM L a else L
set_option maxHeartbeats 4000000 in
theorem does_any (p : Option Addr) (c : Nat) (L : List Rg) (hL : L.length ≤ 100) (hc : L.length ≤ c) (a : Ac) (w : World) (h : IsL w 0 p L) :
    Calls Try.prog 25 #[.slice p L.length c, a.val] w fun e w' => ∃ p' c', e = .returned (.tuple #[.slice p' (actL L a).length c', .int .i64 (actE L a)]) ∧ (actL L a).length ≤ c' ∧ IsL w' 0 p' (actL L a) ∧ Below w.heap.size w w' := by
  have HI : Hid (IsL w 0 p L) := h
  have HC : Hid (L.length ≤ c) := hc
  obtain ⟨a1, a2, a3, a4, a5, a6, a7⟩ := a
  unfold actL actE actM Ac.rg
  simp only
  by_cases k1 : a1 = 1
  · have kb : (a1 == 1) = true := by simp [k1]
    simp only [if_pos k1]
    subst k1
    clear h
    obtain ⟨E, hE⟩ : ∃ E, errA (addN L ⟨a2, a3, a4, a5, a6, a7⟩) (addL L ⟨a2, a3, a4, a5, a6, a7⟩) = E := ⟨_, rfl⟩
    obtain ⟨M, hM⟩ : ∃ M, outL (addN L ⟨a2, a3, a4, a5, a6, a7⟩) (addL L ⟨a2, a3, a4, a5, a6, a7⟩) = M := ⟨_, rfl⟩
    have CC : Hid (∀ W : World, IsL W 0 p L → Calls Try.prog 10 #[.slice p L.length c, .agg #[.int .i64 a2, .int .i64 a3, .bool a4, .bool a5, .bool a6, .int .i64 a7]] W fun e w' => ∃ p' c', e = .returned (.tuple #[.slice p' M.length c', .int .i64 E]) ∧ M.length ≤ c' ∧ IsL w' 0 p' M ∧ Below W.heap.size W w') := fun W h => add_out p c L hL hc ⟨a2, a3, a4, a5, a6, a7⟩ E M hE hM W h
    rw [hE, hM]
    clear hE hM
    generalize hLn : L.length = nL at CC HC ⊢
    by_cases ez : E = 0
    · subst ez
      rw [if_pos rfl]
      generalize hMn : M.length = nM at CC ⊢
      go_enter Try.func25, Try.ntmps25
      go_wp2_with fail
      refine (CC.out _ (HI.out.below (Go.Joins.below_alloc2 _ _ _))).mono ?_
      rintro e u1 ⟨p1, c1, rfl, hc1, hi1, hb1⟩
      have B1 : Hid (Below w.heap.size w u1) := below_then (Go.Joins.below_alloc2 _ _ _) hb1
      have I1 : Hid (IsL u1 0 p1 M) := hi1
      have C1 : Hid (nM ≤ c1) := hc1
      clear hb1 hi1 hc1
      go_wp2_with fail
      go_returns
      exact ⟨p1, c1, rfl, C1.out, I1.out, B1.out⟩
    · have eb : (E == 0) = false := by simp [ez]
      rw [if_neg ez, hLn]
      clear ez
      go_enter Try.func25, Try.ntmps25
      go_wp2_with fail
      refine (CC.out _ (HI.out.below (Go.Joins.below_alloc2 _ _ _))).mono ?_
      rintro e u1 ⟨p1, c1, rfl, hc1, hi1, hb1⟩
      have B1 : Hid (Below w.heap.size w u1) := below_then (Go.Joins.below_alloc2 _ _ _) hb1
      clear hb1 hi1 hc1
      go_wp2_with fail
      go_returns
      exact ⟨p, c, rfl, HC.out, HI.out.below B1.out, B1.out⟩
  have kb1 : (a1 == 1) = false := by simp [k1]
  simp only [if_neg k1]
  by_cases k2 : a1 = 2
  · simp only [if_pos k2]
    subst k2
    clear h k1
    obtain ⟨E, hE⟩ : ∃ E, errA (checkN L a2 a3) (chg (fun _ => Rg.zero) a2 a3 L) = E := ⟨_, rfl⟩
    obtain ⟨M, hM⟩ : ∃ M, outL (checkN L a2 a3) (chg (fun _ => Rg.zero) a2 a3 L) = M := ⟨_, rfl⟩
    have CC : Hid (∀ W : World, IsL W 0 p L → Calls Try.prog 13 #[.slice p L.length c, .agg #[.int .i64 a2, .int .i64 a3]] W fun e w' => ∃ p' c', e = .returned (.tuple #[.slice p' M.length c', .int .i64 E]) ∧ M.length ≤ c' ∧ IsL w' 0 p' M ∧ Below W.heap.size W w') := fun W h => cut_out p c L hL a2 a3 E M hE hM W h
    rw [hE, hM]
    clear hE hM
    generalize hLn : L.length = nL at CC HC ⊢
    by_cases ez : E = 0
    · subst ez
      rw [if_pos rfl]
      generalize hMn : M.length = nM at CC ⊢
      go_enter Try.func25, Try.ntmps25
      go_wp2_with fail
      refine (CC.out _ (HI.out.below (Go.Joins.below_alloc2 _ _ _))).mono ?_
      rintro e u1 ⟨p1, c1, rfl, hc1, hi1, hb1⟩
      have B1 : Hid (Below w.heap.size w u1) := below_then (Go.Joins.below_alloc2 _ _ _) hb1
      have I1 : Hid (IsL u1 0 p1 M) := hi1
      have C1 : Hid (nM ≤ c1) := hc1
      clear hb1 hi1 hc1
      go_wp2_with fail
      go_returns
      exact ⟨p1, c1, rfl, C1.out, I1.out, B1.out⟩
    · have eb : (E == 0) = false := by simp [ez]
      rw [if_neg ez, hLn]
      clear ez
      go_enter Try.func25, Try.ntmps25
      go_wp2_with fail
      refine (CC.out _ (HI.out.below (Go.Joins.below_alloc2 _ _ _))).mono ?_
      rintro e u1 ⟨p1, c1, rfl, hc1, hi1, hb1⟩
      have B1 : Hid (Below w.heap.size w u1) := below_then (Go.Joins.below_alloc2 _ _ _) hb1
      clear hb1 hi1 hc1
      go_wp2_with fail
      go_returns
      exact ⟨p, c, rfl, HC.out, HI.out.below B1.out, B1.out⟩
  have kb2 : (a1 == 2) = false := by simp [k2]
  simp only [if_neg k2]
  by_cases k3 : a1 = 3
  · simp only [if_pos k3]
    subst k3
    clear h k1 k2
    obtain ⟨E, hE⟩ : ∃ E, errA (protN L a2 a3) (chg (fun r => r.may a4 a5 a6) a2 a3 L) = E := ⟨_, rfl⟩
    obtain ⟨M, hM⟩ : ∃ M, outL (protN L a2 a3) (chg (fun r => r.may a4 a5 a6) a2 a3 L) = M := ⟨_, rfl⟩
    have CC : Hid (∀ W : World, IsL W 0 p L → Calls Try.prog 14 #[.slice p L.length c, .agg #[.int .i64 a2, .int .i64 a3], .agg #[.bool a4, .bool a5, .bool a6]] W fun e w' => ∃ p' c', e = .returned (.tuple #[.slice p' M.length c', .int .i64 E]) ∧ M.length ≤ c' ∧ IsL w' 0 p' M ∧ Below W.heap.size W w') := fun W h => prot_out p c L hL a2 a3 a4 a5 a6 E M hE hM W h
    rw [hE, hM]
    clear hE hM
    generalize hLn : L.length = nL at CC HC ⊢
    by_cases ez : E = 0
    · subst ez
      rw [if_pos rfl]
      generalize hMn : M.length = nM at CC ⊢
      go_enter Try.func25, Try.ntmps25
      go_wp2_with fail
      refine (CC.out _ (HI.out.below (Go.Joins.below_alloc2 _ _ _))).mono ?_
      rintro e u1 ⟨p1, c1, rfl, hc1, hi1, hb1⟩
      have B1 : Hid (Below w.heap.size w u1) := below_then (Go.Joins.below_alloc2 _ _ _) hb1
      have I1 : Hid (IsL u1 0 p1 M) := hi1
      have C1 : Hid (nM ≤ c1) := hc1
      clear hb1 hi1 hc1
      go_wp2_with fail
      go_returns
      exact ⟨p1, c1, rfl, C1.out, I1.out, B1.out⟩
    · have eb : (E == 0) = false := by simp [ez]
      rw [if_neg ez, hLn]
      clear ez
      go_enter Try.func25, Try.ntmps25
      go_wp2_with fail
      refine (CC.out _ (HI.out.below (Go.Joins.below_alloc2 _ _ _))).mono ?_
      rintro e u1 ⟨p1, c1, rfl, hc1, hi1, hb1⟩
      have B1 : Hid (Below w.heap.size w u1) := below_then (Go.Joins.below_alloc2 _ _ _) hb1
      clear hb1 hi1 hc1
      go_wp2_with fail
      go_returns
      exact ⟨p, c, rfl, HC.out, HI.out.below B1.out, B1.out⟩
  have kb3 : (a1 == 3) = false := by simp [k3]
  simp only [if_neg k3]
  rw [if_neg (by omega)]
  clear h k1 k2 k3
  generalize hLn : L.length = nL at HC ⊢
  go_enter Try.func25, Try.ntmps25
  go_wp2_with fail
  go_returns
  exact ⟨p, c, rfl, HC.out, HI.out.below (Go.Joins.below_alloc2 _ _ _), Go.Joins.below_alloc2 _ _ _⟩
end Go.Proofs.Ytngaodfajihmmaa
