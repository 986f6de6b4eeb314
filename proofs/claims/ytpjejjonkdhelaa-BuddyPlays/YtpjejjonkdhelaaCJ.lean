/- Both buddies: Give. -/
import Derived.Test.YtpjejjonkdhelaaCI
namespace Go.Proofs.Ytpjejjonkdhelaa
open Go.ChangeShapes Go.WideShapes Go.ChangeAt Go.RowKit Go.Maps
set_option linter.unusedSimpArgs false
set_option linter.unusedVariables false
set_option maxRecDepth 8000

theorem set_none {G : Int → Option Int} {x : Int} (h : G x = none) : setF G x none = G := by
  funext j
  by_cases c : j = x
  · rw [c, set_same, h]
  · rw [set_other _ _ _ _ c]
theorem ans_list {U w' : World} {Z : Nat → Prop} {sx : Nat} {v' : Value} {L' : List (Int × Int)} (hl : LB w' U.heap.size v' L') (lf : sx < U.heap.size) : ∃ pg' cg', v' = .slice pg' L'.length cg' ∧ LZ w' (fun j => Z j ∨ (U.heap.size ≤ j ∧ j < w'.heap.size)) (sx + 1) (.slice pg' L'.length cg') L' := by
  obtain ⟨pg', cg', hv', r⟩ := hl
  exact ⟨pg', cg', hv', lz_of (lo' := U.heap.size) ⟨pg', cg', rfl, r⟩ (by omega) (fun j h1 h2 => Or.inr ⟨h1, h2⟩)⟩
theorem both_give {w1 W : World} {Z : Nat → Prop} {b N fb nn sx : Nat} {F All : Nat → Prop} {G : Int → Option Int} {pg : Option Addr} {ll cg : Nat} {L : List (Int × Int)} (P : Pg w1 W Z b N F G All) (n9 : nn ≤ 6144) (hA : ∀ i, All i → i < nn) (l9 : ll ≤ 1000) (hN : N + 20 < 1048576) (x : Int) (hx : (Lit.int .i64 x).wf = true) :
    Calls Try.prog 19 #[.pointer (some ⟨b, 0, none⟩), .int .i64 x] W fun e u => ∃ (c : Int) (F' : Nat → Prop) (G' : Int → Option Int), e = .returned (.int .i64 c) ∧ Pg w1 u Z b (N + 20) F' G' All ∧ Kf (fun j => ¬ Z j) W u ∧
      ∀ U, Z fb → Rf U Z fb nn sx F G pg ll cg L → Calls Try.prog 20 #[.agg #[.slice (some ⟨fb, 0, none⟩) nn nn, .slice pg ll cg], .int .i64 x] U fun e w' => ∃ (pg' : Option Addr) (ll' cg' : Nat) (L' : List (Int × Int)), e = .returned (.tuple #[.agg #[.slice (some ⟨fb, 0, none⟩) nn nn, .slice pg' ll' cg'], .int .i64 c]) ∧ Ans U w' Z fb nn sx F' G' ll pg' ll' cg' L' := by
  cases hg : G x with
  | none =>
    refine (P.bu.give_no hx hg).mono ?_
    rintro e u ⟨he, hw⟩
    subst hw
    refine ⟨5, F, G, he, P.mono (by omega), Kf.refl _ _, fun U zf R => ?_⟩
    refine (rgive_any fb nn nn (sx + 1) (.slice pg ll cg) L G R.lg (by rw [← R.len]; omega) F n9 x 0 0 false (fun h => by cases h) (fun _ => hg) (by omega) (fun h => by cases h) U R.sn R.lz.lb (Nat.lt_succ_of_lt R.lt)).mono ?_
    rintro e w' ⟨v', he2, hs, hl, k2⟩
    obtain ⟨pg', cg', hv', lz⟩ := ans_list (Z := Z) hl (blk_lt R.bx)
    subst hv'
    refine ⟨pg', _, cg', _, he2, hs.congr (fun y => ⟨fun h => h.elim id (fun h => by cases h.1), Or.inl⟩), lz, ?_, rfl, Nat.le_succ_of_le (Nat.le_trans (List.length_filter_le _ _) (by rw [← R.len]; exact Nat.le_refl _)), k2⟩
    have := R.lg.filt x
    rw [set_none hg] at this
    exact this
  | some v =>
    obtain ⟨k, p, h1, h2, h3, h4⟩ := P.st.giv x v hg
    subst h2
    have hg' : G ((p * 2 ^ k : Nat) : Int) = some (k : Int) := by rw [← h3]; exact hg
    obtain ⟨_, top, hb⟩ := P.st.blk hg'
    have tn : p * 2 ^ k + 2 ^ k ≤ nn := by
      have pp := p2pos k
      have l := hA _ (hb (p * 2 ^ k + (2 ^ k - 1)) ((in_blk k p _).2 ⟨Nat.le_add_right _ _, by generalize 2 ^ k = Q at *; generalize p * Q = X at *; omega⟩)).1
      clear hb h4 hg' hg h3 top
      generalize 2 ^ k = Q at *
      generalize p * Q = X at *
      omega
    refine (P.bu.give k p h1 top (fun i hi => (hb i hi).2) (by clear tn top h3; omega) h3 hg).mono ?_
    rintro e u ⟨he, hB2, kf⟩
    rw [h3] at hB2
    refine ⟨0, _, _, he, (P.prog hB2 (P.st.give hg') kf).mono (by clear tn top h3; omega), kf, fun U zf R => ?_⟩
    refine (rgive_any fb nn nn (sx + 1) (.slice pg ll cg) L G R.lg (by rw [← R.len]; clear tn top h3; omega) F n9 x k p true (fun _ => hg) (fun h => by cases h) h1 (fun _ => ⟨h3, tn⟩) U R.sn R.lz.lb (Nat.lt_succ_of_lt R.lt)).mono ?_
    rintro e w' ⟨v', he2, hs, hl, k2⟩
    obtain ⟨pg', cg', hv', lz⟩ := ans_list (Z := Z) hl (blk_lt R.bx)
    subst hv'
    refine ⟨pg', _, cg', _, he2, hs.congr (fun y => ⟨fun h => h.elim Or.inl (fun h => Or.inr h.2), fun h => h.elim Or.inl (fun h => Or.inr ⟨rfl, h⟩)⟩), lz, ?_, rfl, Nat.le_succ_of_le (Nat.le_trans (List.length_filter_le _ _) (by rw [← R.len]; exact Nat.le_refl _)), k2⟩
    have := R.lg.filt x
    rw [← h3]
    exact this
end Go.Proofs.Ytpjejjonkdhelaa
