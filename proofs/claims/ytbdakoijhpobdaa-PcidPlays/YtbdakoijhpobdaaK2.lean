/- Tags: Get, Drop, Tag, Owner, Generation. -/
import Derived.Test.YtbdakoijhpobdaaK1
namespace Go.Proofs.Ytbdakoijhpobdaa
open Go.ChangeShapes Go.WideShapes Go.ChangeAt Go.RowKit Go.Maps
set_option linter.unusedSimpArgs false
set_option linter.unusedVariables false

/-- a space gets its tag: which, did a generation begin, what is there behind it -/
def getV (S : Tg) (s : Int) : Int := match S.T s with | some t => t | none => if S.most < S.next then 1 else S.next
def getB (S : Tg) (s : Int) : Bool := match S.T s with | some _ => false | none => decide (S.most < S.next)
def getS (S : Tg) (s : Int) : Tg := match S.T s with
  | some _ => S
  | none => if S.most < S.next then ⟨S.most, 2, S.gen + 1, setF noneF s (some 1), setF noneF 1 (some s)⟩ else ⟨S.most, S.next + 1, S.gen, setF S.T s (some S.next), setF S.O S.next (some s)⟩
def dropS (S : Tg) (s : Int) : Tg := match S.T s with
  | none => S
  | some t => ⟨S.most, S.next, S.gen, setF S.T s none, setF S.O t none⟩
/-- bounds that all calls keep -/
structure Ok (S : Tg) : Prop where
  m0 : 1 ≤ S.most
  m1 : S.most ≤ 4095
  n0 : 1 ≤ S.next
  n1 : S.next ≤ S.most + 1
  g0 : 0 ≤ S.gen
  tb : ∀ s t, S.T s = some t → 1 ≤ t ∧ t ≤ 4095
theorem setT_wf {T : Int → Option Int} {s v : Int} (h : ∀ s t, T s = some t → 1 ≤ t ∧ t ≤ 4095) (hv : 1 ≤ v ∧ v ≤ 4095) : ∀ j t, setF T s (some v) j = some t → 1 ≤ t ∧ t ≤ 4095 := by
  intro j t e
  by_cases c : j = s
  · subst c; rw [set_same] at e; cases e; exact hv
  · rw [set_other _ _ _ _ c] at e; exact h j t e
theorem Ok.get {S : Tg} (h : Ok S) (s : Int) : Ok (getS S s) ∧ (getS S s).gen ≤ S.gen + 1 ∧ (getS S s).most = S.most := by
  unfold getS
  have ⟨m0, m1, n0, n1, g0, tb⟩ := h
  cases e : S.T s with
  | some t => exact ⟨h, by show S.gen ≤ S.gen + 1; omega, rfl⟩
  | none =>
    by_cases c : S.most < S.next
    · rw [if_pos c]
      exact ⟨⟨m0, m1, by show (1 : Int) ≤ 2; omega, by show (2 : Int) ≤ S.most + 1; omega, by show (0 : Int) ≤ S.gen + 1; omega, setT_wf (fun s t q => by cases q) (by omega)⟩, by show S.gen + 1 ≤ S.gen + 1; omega, rfl⟩
    · rw [if_neg c]
      exact ⟨⟨m0, m1, by show (1 : Int) ≤ S.next + 1; omega, by show S.next + 1 ≤ S.most + 1; omega, g0, setT_wf tb (by omega)⟩, by show S.gen ≤ S.gen + 1; omega, rfl⟩
theorem Ok.drop {S : Tg} (h : Ok S) (s : Int) : Ok (dropS S s) ∧ (dropS S s).gen = S.gen ∧ (dropS S s).most = S.most := by
  unfold dropS
  have ⟨m0, m1, n0, n1, g0, tb⟩ := h
  cases e : S.T s with
  | none => exact ⟨h, rfl, rfl⟩
  | some t =>
    refine ⟨⟨m0, m1, n0, n1, g0, ?_⟩, rfl, rfl⟩
    intro j t e
    by_cases c : j = s
    · subst c; simp only [set_same] at e; cases e
    · simp only [set_other _ _ _ _ c] at e; exact tb j t e
theorem fresh_ok (m : Int) (h0 : 1 ≤ m) (h1 : m ≤ 4095) : Ok (freshS m) := ⟨h0, h1, by show (1 : Int) ≤ 1; omega, by show (1 : Int) ≤ m + 1; omega, by show (0 : Int) ≤ 0; omega, fun s t e => by cases e⟩

set_option maxHeartbeats 400000 in
theorem get_has (tb mb ob n : Nat) (S : Tg) (s t : Int) (hs : (Lit.int .i64 s).wf = true) (hT : S.T s = some t) (w : World) (h : IsTags w tb mb ob n S) :
    Calls Try.prog 12 #[.pointer (some ⟨tb, 0, none⟩), .int .i64 s] w fun e w' => e = .returned (.tuple #[.int .i64 t, .bool false]) ∧ w' = w := by
  have c3 : w.cell? ⟨tb, 3, none⟩ = some (.map (some mb)) := h.cell 3
  obtain ⟨m, hm⟩ := h.tags
  have hl := hm.look hs
  rw [hT] at hl
  have hl' : (Instr.lookup 44 (.map (some mb)) (.int .i64 s) true).run Try.prog w = .ok (.tuple #[.int .i64 t, .bool true]) w := hl
  have lt0 := blk_lt h.blk
  clear h hm hl
  go_enter Try.func12, Try.ntmps12
  go_wp2_with fail
  go_returns
  exact ⟨rfl, rfl⟩
set_option maxHeartbeats 1000000 in
theorem get_new (tb mb ob n : Nat) (S : Tg) (s : Int) (hs : (Lit.int .i64 s).wf = true) (hT : S.T s = none) (hO : Ok S) (hc : S.next ≤ S.most) (hn : n < maxLen) (w : World) (h : IsTags w tb mb ob n S) :
    Calls Try.prog 12 #[.pointer (some ⟨tb, 0, none⟩), .int .i64 s] w fun e w' => e = .returned (.tuple #[.int .i64 S.next, .bool false]) ∧ IsTags w' tb mb ob (n + 1) ⟨S.most, S.next + 1, S.gen, setF S.T s (some S.next), setF S.O S.next (some s)⟩ ∧ Kp tb mb ob w w' := by
  have ⟨m0, m1, n0, n1, g0, tw⟩ := hO
  have H : Hid (IsTags w tb mb ob n S) := h
  have c3 : w.cell? ⟨tb, 3, none⟩ = some (.map (some mb)) := h.cell 3
  have c0 : w.cell? ⟨tb, 0, none⟩ = some (.int .i64 S.most) := h.cell 0
  have c1 : w.cell? ⟨tb, 1, none⟩ = some (.int .i64 S.next) := h.cell 1
  have f1 : w.frozen? ⟨tb, 1, none⟩ = false := free h 1
  have wn : (Lit.int .i64 S.next).wf = true := wf64 (by omega) (by omega)
  obtain ⟨m, hm⟩ := h.tags
  have hl := hm.look hs
  rw [hT] at hl
  have hl' : (Instr.lookup 44 (.map (some mb)) (.int .i64 s) true).run Try.prog w = .ok (.tuple #[.int .i64 0, .bool false]) w := hl
  have lt0 := blk_lt h.blk
  have dd : decide (S.most < S.next) = false := by simp; omega
  clear h hm hl tw hO
  have H1 : Hid (IsTags ((w.setCell ⟨tb, 1, none⟩ (.int .i64 (S.next + 1))).drew) tb mb ob n ⟨S.most, S.next + 1, S.gen, S.T, S.O⟩) := (put1 H.out _).kept (fun _ _ _ => rfl)
  have K1 : Hid (Kp tb mb ob w ((w.setCell ⟨tb, 1, none⟩ (.int .i64 (S.next + 1))).drew)) := (Kp.grown (grown_setCell1 _ _ _ _) (by omega)).drew
  generalize hw1 : (w.setCell ⟨tb, 1, none⟩ (.int .i64 (S.next + 1))).drew = w1 at H1 K1
  obtain ⟨d1, hd1⟩ := H1.out.tags
  obtain ⟨w2, r2, k2, q2⟩ := hd1.set hn hs wn
  have H2 : Hid (IsTags w2 tb mb ob (n + 1) ⟨S.most, S.next + 1, S.gen, setF S.T s (some S.next), S.O⟩) := turnT H1.out ⟨_, k2⟩ q2 (Nat.le_succ _)
  obtain ⟨d2, hd2⟩ := H1.out.owns
  obtain ⟨w3, r3, k3, q3⟩ := (hd2.kept q2 (by have := H1.out.ne1; simp; omega)).set hn wn hs
  have H3 : Hid (IsTags w3 tb mb ob (n + 1) ⟨S.most, S.next + 1, S.gen, setF S.T s (some S.next), setF S.O S.next (some s)⟩) := turnO H2.out ⟨_, k3⟩ q3 (Nat.le_refl _)
  have K3 : Hid (Kp tb mb ob w w3) := (K1.out.trans (Kp.grown q2 (by omega))).trans (Kp.grown q3 (by omega))
  have c13 : w1.cell? ⟨tb, 3, none⟩ = some (.map (some mb)) := H1.out.cell 3
  have c24 : w2.cell? ⟨tb, 4, none⟩ = some (.map (some ob)) := H2.out.cell 4
  have lt1 := blk_lt H1.out.blk
  have lt2 := blk_lt H2.out.blk
  clear hd1 hd2 k2 k3 q2 q3
  have HW : Hid ((w.setCell ⟨tb, 1, none⟩ (.int .i64 (S.next + 1))).drew = w1) := hw1
  clear hw1
  obtain ⟨Sm, Sn, Sg, ST, SO⟩ := S
  simp only at *
  have r2' : (Instr.mapUpdate 44 (.map (some mb)) (.int .i64 s) (.int .i64 Sn)).run Try.prog (w.setCell ⟨tb, 1, none⟩ (.int .i64 (Sn + 1))).drew = .ok () w2 := by rw [HW.out]; exact r2
  clear r2
  go_enter Try.func12, Try.ntmps12
  go_wp2_with fail
  go_region
  all_goals (go_wp2_with fail)
  all_goals (go_returns; exact ⟨rfl, H3.out, K3.out⟩)
set_option maxHeartbeats 1000000 in
theorem get_over (tb mb ob n : Nat) (S : Tg) (s : Int) (hs : (Lit.int .i64 s).wf = true) (hT : S.T s = none) (hO : Ok S) (hc : S.most < S.next) (hg : S.gen < 4611686018427387904) (hn : n < maxLen) (w : World) (h : IsTags w tb mb ob n S) :
    Calls Try.prog 12 #[.pointer (some ⟨tb, 0, none⟩), .int .i64 s] w fun e w' => e = .returned (.tuple #[.int .i64 1, .bool true]) ∧ IsTags w' tb mb ob (n + 1) ⟨S.most, 2, S.gen + 1, setF noneF s (some 1), setF noneF 1 (some s)⟩ ∧ Kp tb mb ob w w' := by
  have ⟨m0, m1, n0, n1, g0, tw⟩ := hO
  have FG : Hid (∀ W : World, IsTags W tb mb ob n S → Calls Try.prog 18 #[.pointer (some ⟨tb, 0, none⟩)] W fun e w' => e = .returned (.tuple #[]) ∧ IsTags w' tb mb ob n ⟨S.most, 1, S.gen + 1, noneF, noneF⟩ ∧ Kp tb mb ob W w') := fun W h => forget_any tb mb ob n S g0 hg W h
  have H : Hid (IsTags w tb mb ob n S) := h
  have c3 : w.cell? ⟨tb, 3, none⟩ = some (.map (some mb)) := h.cell 3
  have c0 : w.cell? ⟨tb, 0, none⟩ = some (.int .i64 S.most) := h.cell 0
  have c1 : w.cell? ⟨tb, 1, none⟩ = some (.int .i64 S.next) := h.cell 1
  obtain ⟨m, hm⟩ := h.tags
  have hl := hm.look hs
  rw [hT] at hl
  have hl' : (Instr.lookup 44 (.map (some mb)) (.int .i64 s) true).run Try.prog w = .ok (.tuple #[.int .i64 0, .bool false]) w := hl
  have lt0 := blk_lt h.blk
  have dd : decide (S.most < S.next) = true := by simp; omega
  clear h hm hl tw hO
  obtain ⟨Sm, Sn, Sg, ST, SO⟩ := S
  simp only at *
  go_enter Try.func12, Try.ntmps12
  go_wp2_with fail
  go_region
  all_goals (go_wp2_with fail)
  all_goals (refine (FG.out w.drew (H.out.kept (fun _ _ _ => rfl))).mono ?_; rintro e u ⟨rfl, h1, k1⟩)
  all_goals (have H0 : Hid (IsTags u tb mb ob n ⟨Sm, 1, Sg + 1, noneF, noneF⟩) := h1; have K0 : Hid (Kp tb mb ob w u) := ⟨k1.os, k1.tape, k1.output, k1.size, k1.block⟩; clear h1 k1; have e1 : u.cell? ⟨tb, 1, none⟩ = some (.int .i64 1) := H0.out.cell 1; have e2 : u.frozen? ⟨tb, 1, none⟩ = false := free H0.out 1; have e3 : u.cell? ⟨tb, 3, none⟩ = some (.map (some mb)) := H0.out.cell 3; have lt := blk_lt H0.out.blk)
  all_goals (have H1 : Hid (IsTags (u.setCell ⟨tb, 1, none⟩ (.int .i64 2)) tb mb ob n ⟨Sm, 2, Sg + 1, noneF, noneF⟩) := put1 H0.out 2; have K1 : Hid (Kp tb mb ob w (u.setCell ⟨tb, 1, none⟩ (.int .i64 2))) := K0.out.trans (Kp.grown (grown_setCell1 _ _ _ _) (by omega)))
  all_goals (generalize hw1 : u.setCell ⟨tb, 1, none⟩ (.int .i64 2) = w1 at H1 K1; have HW : Hid (u.setCell ⟨tb, 1, none⟩ (.int .i64 2) = w1) := hw1; clear hw1)
  all_goals (obtain ⟨d1, hd1⟩ := H1.out.tags; obtain ⟨w2, r2, k2, q2⟩ := hd1.set (v := 1) hn hs (by decide))
  all_goals (have H2 : Hid (IsTags w2 tb mb ob (n + 1) ⟨Sm, 2, Sg + 1, setF noneF s (some 1), noneF⟩) := turnT H1.out ⟨_, k2⟩ q2 (Nat.le_succ _); obtain ⟨d2, hd2⟩ := H1.out.owns; obtain ⟨w3, r3, k3, q3⟩ := (hd2.kept q2 (by have := H1.out.ne1; simp; omega)).set (k := 1) hn (by decide) hs)
  all_goals (have H3 : Hid (IsTags w3 tb mb ob (n + 1) ⟨Sm, 2, Sg + 1, setF noneF s (some 1), setF noneF 1 (some s)⟩) := turnO H2.out ⟨_, k3⟩ q3 (Nat.le_refl _); have K3 : Hid (Kp tb mb ob w w3) := (K1.out.trans (Kp.grown q2 (by omega))).trans (Kp.grown q3 (by omega)))
  all_goals (have c13 : w1.cell? ⟨tb, 3, none⟩ = some (.map (some mb)) := H1.out.cell 3; have c24 : w2.cell? ⟨tb, 4, none⟩ = some (.map (some ob)) := H2.out.cell 4; have lt1 := blk_lt H1.out.blk; have lt2 := blk_lt H2.out.blk; clear hd1 hd2 k2 k3 q2 q3)
  all_goals (have r2' : (Instr.mapUpdate 44 (.map (some mb)) (.int .i64 s) (.int .i64 1)).run Try.prog (u.setCell ⟨tb, 1, none⟩ (.int .i64 2)) = .ok () w2 := (by rw [HW.out]; exact r2); clear r2)
  all_goals (go_wp2_with fail)
  all_goals (go_returns; exact ⟨rfl, H3.out, K3.out⟩)
theorem get_any (tb mb ob n : Nat) (S : Tg) (s : Int) (hs : (Lit.int .i64 s).wf = true) (hO : Ok S) (hg : S.gen < 4611686018427387904) (hn : n < maxLen) (w : World) (h : IsTags w tb mb ob n S) :
    Calls Try.prog 12 #[.pointer (some ⟨tb, 0, none⟩), .int .i64 s] w fun e w' => e = .returned (.tuple #[.int .i64 (getV S s), .bool (getB S s)]) ∧ IsTags w' tb mb ob (n + 1) (getS S s) ∧ Kp tb mb ob w w' := by
  unfold getV getB getS
  cases e : S.T s with
  | some t =>
    refine (get_has tb mb ob n S s t hs e w h).mono ?_
    rintro x w' ⟨rfl, rfl⟩
    exact ⟨rfl, h.mono (Nat.le_succ _), Kp.refl _ _ _ _⟩
  | none =>
    by_cases c : S.most < S.next
    · simp only [if_pos c, decide_eq_true c]
      exact get_over tb mb ob n S s hs e hO c hg hn w h
    · simp only [if_neg c, decide_eq_false c]
      exact get_new tb mb ob n S s hs e hO (by omega) hn w h
set_option maxHeartbeats 400000 in
theorem drop_any (tb mb ob n : Nat) (S : Tg) (s : Int) (hs : (Lit.int .i64 s).wf = true) (hO : Ok S) (w : World) (h : IsTags w tb mb ob n S) :
    Calls Try.prog 10 #[.pointer (some ⟨tb, 0, none⟩), .int .i64 s] w fun e w' => e = .returned (.tuple #[]) ∧ IsTags w' tb mb ob n (dropS S s) ∧ Kp tb mb ob w w' := by
  unfold dropS
  have c3 : w.cell? ⟨tb, 3, none⟩ = some (.map (some mb)) := h.cell 3
  obtain ⟨m, hm⟩ := h.tags
  have hl := hm.look hs
  have H : Hid (IsTags w tb mb ob n S) := h
  have lt0 := blk_lt h.blk
  cases e : S.T s with
  | none =>
    rw [e] at hl
    have hl' : (Instr.lookup 44 (.map (some mb)) (.int .i64 s) true).run Try.prog w = .ok (.tuple #[.int .i64 0, .bool false]) w := hl
    clear h hm hl e
    go_enter Try.func10, Try.ntmps10
    go_wp2_with fail
    go_returns
    exact ⟨rfl, H.out, Kp.refl _ _ _ _⟩
  | some t =>
    rw [e] at hl
    have hl' : (Instr.lookup 44 (.map (some mb)) (.int .i64 s) true).run Try.prog w = .ok (.tuple #[.int .i64 t, .bool true]) w := hl
    have tw := hO.tb s t e
    have wt : (Lit.int .i64 t).wf = true := wf64 (by omega) (by omega)
    obtain ⟨w1, r1, k1, q1⟩ := hm.del hs 0
    have H1 : Hid (IsTags w1 tb mb ob n ⟨S.most, S.next, S.gen, setF S.T s none, S.O⟩) := turnT H.out k1 q1 (Nat.le_refl _)
    obtain ⟨m2, hm2⟩ := H1.out.owns
    obtain ⟨w2, r2, k2, q2⟩ := hm2.del wt 0
    have H2 : Hid (IsTags w2 tb mb ob n ⟨S.most, S.next, S.gen, setF S.T s none, setF S.O t none⟩) := turnO H1.out k2 q2 (Nat.le_refl _)
    have K2 : Hid (Kp tb mb ob w w2) := (Kp.grown q1 (by omega)).trans (Kp.grown q2 (by omega))
    have c14 : w1.cell? ⟨tb, 4, none⟩ = some (.map (some ob)) := H1.out.cell 4
    have lt1 := blk_lt H1.out.blk
    clear h hm hl e hm2 k1 k2 q1 q2
    go_enter Try.func10, Try.ntmps10
    go_wp2_with fail
    go_returns
    exact ⟨rfl, H2.out, K2.out⟩
set_option maxHeartbeats 400000 in
theorem tag_any (tb mb ob n : Nat) (S : Tg) (s : Int) (hs : (Lit.int .i64 s).wf = true) (w : World) (h : IsTags w tb mb ob n S) :
    Calls Try.prog 14 #[.pointer (some ⟨tb, 0, none⟩), .int .i64 s] w fun e w' => e = .returned (.tuple #[.int .i64 ((S.T s).getD 0), .bool (S.T s).isSome]) ∧ w' = w := by
  have c3 : w.cell? ⟨tb, 3, none⟩ = some (.map (some mb)) := h.cell 3
  obtain ⟨m, hm⟩ := h.tags
  have hl := hm.look hs
  have lt0 := blk_lt h.blk
  clear h hm
  go_enter Try.func14, Try.ntmps14
  go_wp2_with fail
  go_returns
  exact ⟨rfl, rfl⟩
set_option maxHeartbeats 400000 in
theorem owner_any (tb mb ob n : Nat) (S : Tg) (s : Int) (hs : (Lit.int .i64 s).wf = true) (w : World) (h : IsTags w tb mb ob n S) :
    Calls Try.prog 16 #[.pointer (some ⟨tb, 0, none⟩), .int .i64 s] w fun e w' => e = .returned (.tuple #[.int .i64 ((S.O s).getD 0), .bool (S.O s).isSome]) ∧ w' = w := by
  have c4 : w.cell? ⟨tb, 4, none⟩ = some (.map (some ob)) := h.cell 4
  obtain ⟨m, hm⟩ := h.owns
  have hl := hm.look hs
  have lt0 := blk_lt h.blk
  clear h hm
  go_enter Try.func16, Try.ntmps16
  go_wp2_with fail
  go_returns
  exact ⟨rfl, rfl⟩
set_option maxHeartbeats 400000 in
theorem gen_any (tb mb ob n : Nat) (S : Tg) (w : World) (h : IsTags w tb mb ob n S) :
    Calls Try.prog 17 #[.pointer (some ⟨tb, 0, none⟩)] w fun e w' => e = .returned (.int .i64 S.gen) ∧ w' = w := by
  have c2 : w.cell? ⟨tb, 2, none⟩ = some (.int .i64 S.gen) := h.cell 2
  have lt0 := blk_lt h.blk
  clear h
  go_enter Try.func17, Try.ntmps17
  go_wp2_with fail
  go_ret
  exact ⟨rfl, rfl⟩
end Go.Proofs.Ytbdakoijhpobdaa
