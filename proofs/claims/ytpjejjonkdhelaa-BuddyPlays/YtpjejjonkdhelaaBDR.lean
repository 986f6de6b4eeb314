/- A buddy: how many blocks are given. -/
import Derived.Test.YtpjejjonkdhelaaBDQ
namespace Go.Proofs.Ytpjejjonkdhelaa
open Go.ChangeShapes Go.WideShapes Go.ChangeAt Go.RowKit Go.Maps
set_option linter.unusedSimpArgs false
set_option linter.unusedVariables false
set_option maxRecDepth 8000

theorem Bu.one {Z Z' : Nat → Prop} {W : World} {b N N' : Nat} {F F' : Nat → Prop} {G G' : Int → Option Int} (H : Bu Z W b N F G) (H' : Bu Z' W b N' F' G') {x : Int} (hx : (Lit.int .i64 x).wf = true) : (G x).isSome = (G' x).isSome := by
  obtain ⟨_, base, gb, mbs, s, B, _⟩ := H
  obtain ⟨_, base', gb', mbs', s', B', _⟩ := H'
  obtain ⟨r, c, _⟩ := B.look hx
  obtain ⟨r', c', _⟩ := B'.look hx
  have e : gb = gb' := by
    rw [c] at c'
    simpa using c'
  subst e
  rw [r] at r'
  simp at r'
  exact r'.2
/-- how many blocks are given -/
noncomputable def gcnt (G : Int → Option Int) : Nat := cnt (fun i => (G (i : Int)).isSome = true) 1048576
theorem gcnt_eq {G G' : Int → Option Int} (h : ∀ x, (Lit.int .i64 x).wf = true → (G x).isSome = (G' x).isSome) : gcnt G = gcnt G' := by
  unfold gcnt
  have : ∀ n, n ≤ 1048576 → cnt (fun i => (G (i : Int)).isSome = true) n = cnt (fun i => (G' (i : Int)).isSome = true) n := fun n => by
    induction n with
    | zero => intro _; rfl
    | succ n ih =>
      intro hn
      have e := h (n : Int) (wf64 (by omega) (by omega))
      have ih' := ih (by omega)
      by_cases c : (G (n : Int)).isSome = true
      · rw [cnt_yes (F := fun i => (G (i : Int)).isSome = true) c, cnt_yes (F := fun i => (G' (i : Int)).isSome = true) (e ▸ c), ih']
      · rw [cnt_no (F := fun i => (G (i : Int)).isSome = true) c, cnt_no (F := fun i => (G' (i : Int)).isSome = true) (e ▸ c), ih']
  exact this 1048576 (Nat.le_refl _)
open Classical in
noncomputable def gcount (b : Nat) (W : World) : Nat := if h : ∃ n Z N F G, Bu Z W b N F G ∧ n = gcnt G then Classical.choose h else 0
theorem gcount_is {Z : Nat → Prop} {W : World} {b N : Nat} {F : Nat → Prop} {G : Int → Option Int} (H : Bu Z W b N F G) : gcount b W = gcnt G := by
  have h : ∃ n Z N F G, Bu Z W b N F G ∧ n = gcnt G := ⟨_, Z, N, F, G, H, rfl⟩
  unfold gcount
  rw [dif_pos h]
  obtain ⟨Z', N', F', G', H', e⟩ := Classical.choose_spec h
  rw [e]
  exact gcnt_eq (fun x hx => H'.one H hx)
theorem gcnt_drop {G : Int → Option Int} {x : Nat} (hx : x < 1048576) (h : (G (x : Int)).isSome = true) : gcnt (setF G (x : Int) none) + 1 = gcnt G := by
  unfold gcnt
  have e := cnt_sub (fun i => (G (i : Int)).isSome = true) (fun i => i / 2 ^ 0 = x) (fun i hi => by simp at hi; subst hi; exact h) 1048576
  rw [cnt_blk (by simp; omega)] at e
  have e2 : (fun i : Nat => (setF G (x : Int) none (i : Int)).isSome = true) = (fun i : Nat => (G (i : Int)).isSome = true ∧ ¬ i / 2 ^ 0 = x) := by
    funext i; apply propext
    by_cases c : i = x
    · subst c; rw [set_same]; simp
    · rw [set_other _ _ _ _ (by omega)]; simp [c]
  rw [e2]
  simpa using e
theorem gcnt_none {All F : Nat → Prop} {G : Int → Option Int} (S : St All F G) (h : gcnt G = 0) : F = All := by
  have no : ∀ x, G x = none := fun x => by
    cases e : G x with
    | none => rfl
    | some v =>
      exfalso
      have hs : (G x).isSome = true := by rw [e]; rfl
      have b := S.wf hs
      obtain ⟨i, rfl⟩ : ∃ i : Nat, x = (i : Int) := ⟨x.toNat, by omega⟩
      have := cnt_pos (F := fun i : Nat => (G (i : Int)).isSome = true) (i := i) hs 1048576 (by omega)
      unfold gcnt at h
      omega
  funext i; apply propext
  refine ⟨S.sub i, fun hi => ?_⟩
  rcases S.all i hi with r | ⟨k, p, _, e, _⟩
  · exact r
  · rw [no] at e; cases e
theorem gcnt_len {All F : Nat → Prop} {G : Int → Option Int} (S : St All F G) {L : List Int} (a : Asc L) (hM : ∀ x, x ∈ L ↔ (G x).isSome = true) : L.length = gcnt G := by
  unfold gcnt
  refine cnt_keys (fun i hi => ?_) a (fun x => ?_)
  · have := S.wf hi; omega
  · rw [hM]
    constructor
    · intro h
      have := S.wf h
      exact ⟨x.toNat, by omega, by rw [show ((x.toNat : Nat) : Int) = x by omega]; exact h⟩
    · rintro ⟨j, rfl, h⟩; exact h
theorem gcnt_bound {All F : Nat → Prop} {G : Int → Option Int} (S : St All F G) {m : Nat} (h : ∀ i, All i → i < m) : gcnt G ≤ m := by
  unfold gcnt
  refine cnt_bound (fun i hi => ?_) _
  obtain ⟨v, hv⟩ := Option.isSome_iff_exists.1 hi
  obtain ⟨k, p, h1, h2, h3, h4⟩ := S.giv _ v hv
  have e : i = p * 2 ^ k := Int.ofNat.inj h3
  exact h i (h4 i (by rw [e]; exact blk_ne k p)).1
end Go.Proofs.Ytpjejjonkdhelaa
