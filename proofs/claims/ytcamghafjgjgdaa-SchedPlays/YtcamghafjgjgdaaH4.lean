/- The queue: what holds behind any calls; Add, Remove, Yield, Tick. -/
import Derived.Test.YtcamghafjgjgdaaH3
namespace Go.Proofs.Ytcamghafjgjgdaa
open Go.ChangeShapes Go.WideShapes Go.ChangeAt Go.RowKit Go.Maps
set_option linter.unusedSimpArgs false
set_option linter.unusedVariables false

theorem nodup_len : ∀ (n : Nat) (L : List Int), L.Nodup → (∀ x ∈ L, 0 ≤ x ∧ x < (n : Int)) → L.length ≤ n
  | 0, L, _, h => by
    cases L with
    | nil => simp
    | cons x r => have := h x (by simp); omega
  | n + 1, L, hd, h => by
    by_cases c : (n : Int) ∈ L
    · have := nodup_len n (L.erase (n : Int)) (hd.erase _) (fun x hx => by
        rw [hd.mem_erase_iff] at hx
        have := h x hx.2
        have := hx.1
        omega)
      rw [List.length_erase_of_mem c] at this
      omega
    · have := nodup_len n L hd (fun x hx => by
        have := h x hx
        have : x ≠ (n : Int) := fun e => c (e ▸ hx)
        omega)
      omega
/-- what holds of a queue behind any calls -/
structure Good (S : Qu) : Prop where
  q0 : 1 ≤ S.q
  q1 : S.q ≤ 1000
  t0 : 0 ≤ S.t
  t1 : S.t < S.q
  one : S.L.Nodup
  who : ∀ x ∈ S.L, 0 ≤ x ∧ x < 16
  idle : S.L = [] → S.t = 0
theorem Good.few {S : Qu} (h : Good S) : S.L.length ≤ 16 := nodup_len 16 S.L h.one h.who
theorem Good.room {S : Qu} (h : Good S) {p : Int} (p0 : 0 ≤ p) (p1 : p < 16) (hp : p ∉ S.L) : S.L.length < 16 := by
  have := nodup_len 16 (p :: S.L) (List.nodup_cons.2 ⟨hp, h.one⟩) (fun x hx => by
    rcases List.mem_cons.1 hx with rfl | hx
    · exact ⟨p0, p1⟩
    · exact h.who x hx)
  simp at this; omega
theorem fresh_good (q : Int) (h0 : 1 ≤ q) (h1 : q ≤ 1000) : Good ⟨q, 0, []⟩ := ⟨h0, h1, by show (0 : Int) ≤ 0; omega, by show (0 : Int) < q; omega, List.nodup_nil, by simp, fun _ => rfl⟩
def addE (S : Qu) (p : Int) : Int := if p < 0 ∨ 16 ≤ p then 1 else if p ∈ S.L then 6 else 0
def addS (S : Qu) (p : Int) : Qu := if p < 0 ∨ 16 ≤ p then S else if p ∈ S.L then S else ⟨S.q, S.t, S.L ++ [p]⟩
def remE (S : Qu) (p : Int) : Int := if p ∈ S.L then 0 else 5
def remS (S : Qu) (p : Int) : Qu := if p ∈ S.L then ⟨S.q, if fstAt S.L p = 0 then 0 else S.t, S.L.eraseIdx (fstAt S.L p)⟩ else S
def yldS (S : Qu) : Qu := match S.L with | [] => S | x :: r => ⟨S.q, 0, r ++ [x]⟩
def tckB (S : Qu) : Bool := nowB S.L && !decide (S.t + 1 < S.q)
def tckS (S : Qu) : Qu := match S.L with | [] => S | _ :: _ => if S.t + 1 < S.q then ⟨S.q, S.t + 1, S.L⟩ else yldS S
theorem Good.add {S : Qu} (h : Good S) (p : Int) : Good (addS S p) := by
  unfold addS
  by_cases c : p < 0 ∨ 16 ≤ p
  · rw [if_pos c]; exact h
  · rw [if_neg c]
    by_cases e : p ∈ S.L
    · rw [if_pos e]; exact h
    · rw [if_neg e]
      refine ⟨h.q0, h.q1, h.t0, h.t1, ?_, ?_, fun z => by simp at z⟩
      · show (S.L ++ [p]).Nodup
        rw [List.nodup_append]
        refine ⟨h.one, by simp, ?_⟩
        intro x hx y hy
        simp at hy
        subst hy
        exact fun z => e (z ▸ hx)
      · intro x hx
        rcases List.mem_append.1 hx with hx | hx
        · exact h.who x hx
        · simp at hx; subst hx; omega
theorem Good.rem {S : Qu} (h : Good S) (p : Int) : Good (remS S p) := by
  unfold remS
  by_cases e : p ∈ S.L
  · rw [if_pos e]
    have q0 := h.q0; have t0 := h.t0; have t1 := h.t1
    have sub : (S.L.eraseIdx (fstAt S.L p)).Sublist S.L := List.eraseIdx_sublist _ _
    refine ⟨h.q0, h.q1, ?_, ?_, h.one.sublist sub, fun x hx => h.who x (sub.subset hx), ?_⟩
    · show 0 ≤ (if fstAt S.L p = 0 then 0 else S.t); split <;> omega
    · show (if fstAt S.L p = 0 then 0 else S.t) < S.q; split <;> omega
    · intro z
      show (if fstAt S.L p = 0 then 0 else S.t) = 0
      have z' : S.L.eraseIdx (fstAt S.L p) = [] := z
      have hl := fst_lt.2 e
      have : (S.L.eraseIdx (fstAt S.L p)).length = 0 := by rw [z']; rfl
      rw [List.length_eraseIdx, if_pos hl] at this
      rw [if_pos (by omega)]
  · rw [if_neg e]; exact h
theorem Good.yld {S : Qu} (h : Good S) : Good (yldS S) := by
  unfold yldS
  obtain ⟨q, t, L⟩ := S
  cases L with
  | nil => exact h
  | cons x r =>
    have q0 := h.q0
    have one : (x :: r).Nodup := h.one
    refine ⟨h.q0, h.q1, by show (0 : Int) ≤ 0; omega, by show (0 : Int) < q; simp only at q0; omega, ?_, fun y hy => h.who y ?_, fun _ => rfl⟩
    · show (r ++ [x]).Nodup
      rw [List.nodup_cons] at one
      rw [List.nodup_append]
      refine ⟨one.2, by simp, ?_⟩
      intro y hy z hz
      simp at hz
      subst hz
      exact fun e => one.1 (e ▸ hy)
    · have hy' : y ∈ r ++ [x] := hy
      show y ∈ x :: r
      simp at hy' ⊢
      exact hy'.symm
theorem Good.tck {S : Qu} (h : Good S) : Good (tckS S) := by
  unfold tckS
  have Y := h.yld
  obtain ⟨q, t, L⟩ := S
  cases L with
  | nil => exact h
  | cons x r =>
    by_cases c : t + 1 < q
    · simp only [if_pos c]
      have t0 := h.t0
      simp only at t0
      exact ⟨h.q0, h.q1, by show 0 ≤ t + 1; omega, c, h.one, h.who, fun z => by cases z⟩
    · simp only [if_neg c]; exact Y
theorem yld_q (S : Qu) : (yldS S).q = S.q := by unfold yldS; obtain ⟨q, t, L⟩ := S; cases L <;> rfl
theorem tck_q (S : Qu) : (tckS S).q = S.q := by
  unfold tckS
  have := yld_q S
  obtain ⟨q, t, L⟩ := S
  cases L with
  | nil => rfl
  | cons x r =>
    by_cases c : t + 1 < q
    · simp only [if_pos c]
    · simp only [if_neg c]; exact this
theorem add_q (S : Qu) (p : Int) : (addS S p).q = S.q := by unfold addS; split; rfl; split <;> rfl
theorem rem_q (S : Qu) (p : Int) : (remS S p).q = S.q := by unfold remS; split <;> rfl

set_option maxHeartbeats 1000000 in
theorem add_any (b : Nat) (S : Qu) (p : Int) (g : Good S) (w : World) (h : IsQ w b S) : Calls Try.prog 10 #[.pointer (some ⟨b, 0, none⟩), .int .i64 p] w fun e w' => e = .returned (.int .i64 (addE S p)) ∧ IsQ w' b (addS S p) ∧ Kb b w w' := by
  have H : Hid (IsQ w b S) := h
  have lt0 := blk_lt h.blk
  clear h
  by_cases c1 : p < 0
  · have d1 : decide (p < 0) = true := by simp [c1]
    rw [addE, addS, if_pos (Or.inl c1), if_pos (Or.inl c1)]
    go_enter Try.func10, Try.ntmps10
    go_wp2_with fail
    go_returns
    exact ⟨rfl, H.out, Kb.refl _ _⟩
  have d1 : decide (p < 0) = false := by simp; omega
  by_cases c2 : 16 ≤ p
  · have d2 : decide (16 ≤ p) = true := by simp [c2]
    rw [addE, addS, if_pos (Or.inr c2), if_pos (Or.inr c2)]
    go_enter Try.func10, Try.ntmps10
    go_wp2_with fail
    go_returns
    exact ⟨rfl, H.out, Kb.refl _ _⟩
  have d2 : decide (16 ≤ p) = false := by simp; omega
  have cc : ¬ (p < 0 ∨ 16 ≤ p) := by omega
  rw [addE, addS, if_neg cc, if_neg cc]
  obtain ⟨q, t, L⟩ := S
  have PL : Hid (∀ W : World, IsQ W b ⟨q, t, L⟩ → Calls Try.prog 22 #[.pointer (some ⟨b, 0, none⟩), .int .i64 p] W fun e w' => e = .returned (.int .i64 (plc L p)) ∧ Below W.heap.size W w') := fun W k => place_any b q t L p W k
  by_cases e : p ∈ L
  · simp only [if_pos e]
    have hp : plc L p = (fstAt L p : Int) := if_pos (fst_lt.2 e)
    rw [hp] at PL
    generalize fstAt L p = k at PL
    have d3 : decide (0 ≤ (k : Int)) = true := by simp
    clear g e hp
    go_enter Try.func10, Try.ntmps10
    go_wp2_with fail
    refine (PL.out _ H.out).mono ?_
    rintro e u ⟨rfl, hb⟩
    have B1 : Hid (Below w.heap.size w u) := hb
    clear hb
    go_wp2_with fail
    go_returns
    exact ⟨rfl, H.out.below B1.out, Kb.below B1.out⟩
  · simp only [if_neg e]
    have hp : plc L p = -1 := if_neg (fun z => e (fst_lt.1 z))
    rw [hp] at PL
    have rm : L.length < 16 := g.room (by omega) (by omega) e
    have PU : Hid (∀ W : World, IsQ W b ⟨q, t, L⟩ → Calls Try.prog 23 #[.pointer (some ⟨b, 0, none⟩), .int .i64 p] W fun e w' => e = .returned (.tuple #[]) ∧ IsQ w' b ⟨q, t, L ++ [p]⟩ ∧ Kb b W w') := fun W k => push_any b q t p L rm W k
    clear g e hp rm
    go_enter Try.func10, Try.ntmps10
    go_wp2_with fail
    refine (PL.out _ H.out).mono ?_
    rintro e u ⟨rfl, hb⟩
    have B1 : Hid (Below w.heap.size w u) := hb
    clear hb
    go_wp2_with fail
    refine (PU.out _ (H.out.below B1.out)).mono ?_
    rintro e u2 ⟨rfl, h2, k2⟩
    have H2 : Hid (IsQ u2 b ⟨q, t, L ++ [p]⟩) := h2
    have K2 : Hid (Kb b w u2) := (Kb.below B1.out).trans k2
    clear h2 k2
    go_wp2_with fail
    go_returns
    exact ⟨rfl, H2.out, K2.out⟩
set_option maxHeartbeats 1000000 in
theorem rem_any (b : Nat) (S : Qu) (p : Int) (g : Good S) (w : World) (h : IsQ w b S) : Calls Try.prog 12 #[.pointer (some ⟨b, 0, none⟩), .int .i64 p] w fun e w' => e = .returned (.int .i64 (remE S p)) ∧ IsQ w' b (remS S p) ∧ Kb b w w' := by
  have H : Hid (IsQ w b S) := h
  have lt0 := blk_lt h.blk
  clear h
  rw [remE, remS]
  obtain ⟨q, t, L⟩ := S
  have PL : Hid (∀ W : World, IsQ W b ⟨q, t, L⟩ → Calls Try.prog 22 #[.pointer (some ⟨b, 0, none⟩), .int .i64 p] W fun e w' => e = .returned (.int .i64 (plc L p)) ∧ Below W.heap.size W w') := fun W k => place_any b q t L p W k
  by_cases e : p ∈ L
  · simp only [if_pos e]
    have hl := fst_lt.2 e
    have hp : plc L p = (fstAt L p : Int) := if_pos hl
    rw [hp] at PL
    have DR : Hid (∀ W : World, IsQ W b ⟨q, t, L⟩ → Calls Try.prog 25 #[.pointer (some ⟨b, 0, none⟩), .int .i64 (fstAt L p)] W fun e w' => e = .returned (.tuple #[]) ∧ IsQ w' b ⟨q, if fstAt L p = 0 then 0 else t, L.eraseIdx (fstAt L p)⟩ ∧ Kb b W w') := fun W k => drop_any b _ q t L hl W k
    obtain ⟨S2, hS2⟩ : ∃ S2 : Qu, S2 = ⟨q, if fstAt L p = 0 then 0 else t, L.eraseIdx (fstAt L p)⟩ := ⟨_, rfl⟩
    rw [← hS2] at DR ⊢
    clear hS2 hl hp
    generalize fstAt L p = k at PL DR
    have d3 : decide ((k : Int) < 0) = false := by simp
    clear g e
    go_enter Try.func12, Try.ntmps12
    go_wp2_with fail
    refine (PL.out _ H.out).mono ?_
    rintro e u ⟨rfl, hb⟩
    have B1 : Hid (Below w.heap.size w u) := hb
    clear hb
    go_wp2_with fail
    refine (DR.out _ (H.out.below B1.out)).mono ?_
    rintro e u2 ⟨rfl, h2, k2⟩
    have H2 : Hid (IsQ u2 b S2) := h2
    have K2 : Hid (Kb b w u2) := (Kb.below B1.out).trans k2
    clear h2 k2
    go_wp2_with fail
    go_returns
    exact ⟨rfl, H2.out, K2.out⟩
  · simp only [if_neg e]
    have hp : plc L p = -1 := if_neg (fun z => e (fst_lt.1 z))
    rw [hp] at PL
    clear g e hp
    go_enter Try.func12, Try.ntmps12
    go_wp2_with fail
    refine (PL.out _ H.out).mono ?_
    rintro e u ⟨rfl, hb⟩
    have B1 : Hid (Below w.heap.size w u) := hb
    clear hb
    go_wp2_with fail
    go_returns
    exact ⟨rfl, H.out.below B1.out, Kb.below B1.out⟩
set_option maxHeartbeats 1000000 in
theorem yld_any (b : Nat) (S : Qu) (w : World) (h : IsQ w b S) : Calls Try.prog 14 #[.pointer (some ⟨b, 0, none⟩)] w fun e w' => e = .returned (.tuple #[]) ∧ IsQ w' b (yldS S) ∧ Kb b w w' := by
  have H : Hid (IsQ w b S) := h
  have lt0 := blk_lt h.blk
  have NW : Hid (∀ W : World, IsQ W b S → Calls Try.prog 18 #[.pointer (some ⟨b, 0, none⟩)] W fun e w' => e = .returned (.tuple #[.int .i64 (nowV S.L), .bool (nowB S.L)]) ∧ Below W.heap.size W w') := fun W k => now_any b S W k
  have few := h.few
  clear h
  obtain ⟨q, t, L⟩ := S
  cases L with
  | nil =>
    have NW' : Hid (∀ W : World, IsQ W b ⟨q, t, []⟩ → Calls Try.prog 18 #[.pointer (some ⟨b, 0, none⟩)] W fun e w' => e = .returned (.tuple #[.int .i64 0, .bool false]) ∧ Below W.heap.size W w') := NW
    clear NW few
    go_enter Try.func14, Try.ntmps14
    go_wp2_with fail
    refine (NW'.out _ H.out).mono ?_
    rintro e u ⟨rfl, hb⟩
    have B1 : Hid (Below w.heap.size w u) := hb
    clear hb
    go_wp2_with fail
    go_returns
    exact ⟨rfl, H.out.below B1.out, Kb.below B1.out⟩
  | cons x r =>
    have NW' : Hid (∀ W : World, IsQ W b ⟨q, t, x :: r⟩ → Calls Try.prog 18 #[.pointer (some ⟨b, 0, none⟩)] W fun e w' => e = .returned (.tuple #[.int .i64 x, .bool true]) ∧ Below W.heap.size W w') := NW
    have DR : Hid (∀ W : World, IsQ W b ⟨q, t, x :: r⟩ → Calls Try.prog 25 #[.pointer (some ⟨b, 0, none⟩), .int .i64 0] W fun e w' => e = .returned (.tuple #[]) ∧ IsQ w' b ⟨q, 0, r⟩ ∧ Kb b W w') := fun W k => drop_any b 0 q t (x :: r) (by simp) W k
    have PU : Hid (∀ W : World, IsQ W b ⟨q, 0, r⟩ → Calls Try.prog 23 #[.pointer (some ⟨b, 0, none⟩), .int .i64 x] W fun e w' => e = .returned (.tuple #[]) ∧ IsQ w' b ⟨q, 0, r ++ [x]⟩ ∧ Kb b W w') := fun W k => push_any b q 0 x r (by simp at few; omega) W k
    clear NW few
    go_enter Try.func14, Try.ntmps14
    go_wp2_with fail
    refine (NW'.out _ H.out).mono ?_
    rintro e u ⟨rfl, hb⟩
    have B1 : Hid (Below w.heap.size w u) := hb
    clear hb
    go_wp2_with fail
    refine (DR.out _ (H.out.below B1.out)).mono ?_
    rintro e u2 ⟨rfl, h2, k2⟩
    have H2 : Hid (IsQ u2 b ⟨q, 0, r⟩) := h2
    have K2 : Hid (Kb b w u2) := (Kb.below B1.out).trans k2
    clear h2 k2
    go_wp2_with fail
    refine (PU.out _ H2.out).mono ?_
    rintro e u3 ⟨rfl, h3, k3⟩
    have H3 : Hid (IsQ u3 b ⟨q, 0, r ++ [x]⟩) := h3
    have K3 : Hid (Kb b w u3) := K2.out.trans k3
    clear h3 k3
    go_wp2_with fail
    go_returns
    exact ⟨rfl, H3.out, K3.out⟩
set_option maxHeartbeats 1000000 in
theorem tck_any (b : Nat) (S : Qu) (g : Good S) (w : World) (h : IsQ w b S) : Calls Try.prog 17 #[.pointer (some ⟨b, 0, none⟩)] w fun e w' => e = .returned (.bool (tckB S)) ∧ IsQ w' b (tckS S) ∧ Kb b w w' := by
  have H : Hid (IsQ w b S) := h
  have lt0 := blk_lt h.blk
  have c0 := h.c0
  have c1 := h.c1
  have c2 := h.c2
  have f1 : w.frozen? ⟨b, 1, none⟩ = false := h.free _
  clear h
  obtain ⟨q, t, L⟩ := S
  have t0 := g.t0
  have t1 := g.t1
  have q1 := g.q1
  simp only at t0 t1 q1 c0 c1 c2
  have YL : Hid (∀ W : World, IsQ W b ⟨q, t + 1, L⟩ → Calls Try.prog 14 #[.pointer (some ⟨b, 0, none⟩)] W fun e w' => e = .returned (.tuple #[]) ∧ IsQ w' b (yldS ⟨q, t + 1, L⟩) ∧ Kb b W w') := fun W k => yld_any b _ W k
  clear g
  cases L with
  | nil =>
    have c2' : w.cell? ⟨b, 2, none⟩ = some (.int .i64 0) := c2
    clear c2 YL
    go_enter Try.func17, Try.ntmps17
    go_wp2_with fail
    go_returns
    exact ⟨rfl, H.out, Kb.refl _ _⟩
  | cons x r =>
    obtain ⟨m, hm⟩ : ∃ m : Int, m = (((x :: r).length : Nat) : Int) := ⟨_, rfl⟩
    have m0 : (m == 0) = false := by rw [hm]; simp; omega
    have m1 : ¬ m = 0 := by rw [hm]; simp; omega
    have c2' : w.cell? ⟨b, 2, none⟩ = some (.int .i64 m) := by rw [hm]; exact c2
    clear c2 hm
    by_cases c : t + 1 < q
    · have e1 : tckB ⟨q, t, x :: r⟩ = false := by simp [tckB, nowB, c]
      have e2 : tckS ⟨q, t, x :: r⟩ = ⟨q, t + 1, x :: r⟩ := by simp [tckS, c]
      rw [e1, e2]
      have d : decide (t + 1 < q) = true := by simp [c]
      clear e1 e2 YL
      go_enter Try.func17, Try.ntmps17
      go_wp2_with fail
      go_region
      all_goals (go_wp2_with fail)
      all_goals (go_returns)
      all_goals (exact ⟨rfl, (H.out.tick _).kept (fun _ => rfl), (Kb.set _ _ _ _).drew⟩)
    · have e1 : tckB ⟨q, t, x :: r⟩ = true := by simp [tckB, nowB, c]
      have e2 : tckS ⟨q, t, x :: r⟩ = yldS ⟨q, t + 1, x :: r⟩ := by simp [tckS, c, yldS]
      rw [e1, e2]
      have d : decide (t + 1 < q) = false := by simp; omega
      clear e1 e2
      generalize yldS ⟨q, t + 1, x :: r⟩ = S2 at YL ⊢
      have H1 : Hid (IsQ (w.setCell ⟨b, 1, none⟩ (.int .i64 (t + 1))) b ⟨q, t + 1, x :: r⟩) := H.out.tick _
      have K1 : Hid (Kb b w (w.setCell ⟨b, 1, none⟩ (.int .i64 (t + 1)))) := Kb.set _ _ _ _
      go_enter Try.func17, Try.ntmps17
      go_wp2_with fail
      go_region
      all_goals (go_wp2_with fail)
      all_goals (refine (YL.out (w.setCell ⟨b, 1, none⟩ (.int .i64 (t + 1))).drew (H1.out.kept (fun _ => rfl))).mono ?_; rintro e u ⟨rfl, h2, k2⟩)
      all_goals (have H2 : Hid (IsQ u b S2) := h2)
      all_goals (have K2 : Hid (Kb b w u) := ⟨k2.os.trans K1.out.os, k2.tape.trans K1.out.tape, k2.output.trans K1.out.output, Nat.le_trans K1.out.size k2.size, fun j hj h1 => (k2.block j (Nat.lt_of_lt_of_le hj K1.out.size) h1).trans (K1.out.block j hj h1)⟩)
      all_goals (clear h2 k2)
      all_goals (go_wp2_with fail)
      all_goals (go_returns)
      all_goals (exact ⟨rfl, H2.out, K2.out⟩)
end Go.Proofs.Ytcamghafjgjgdaa
