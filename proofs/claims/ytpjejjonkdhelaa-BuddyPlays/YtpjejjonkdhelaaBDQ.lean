/- A buddy behind any calls: free and given blocks make just the frames that there were. -/
import Derived.Test.YtpjejjonkdhelaaBDP
namespace Go.Proofs.Ytpjejjonkdhelaa
open Go.ChangeShapes Go.WideShapes Go.ChangeAt Go.RowKit Go.Maps
set_option linter.unusedSimpArgs false
set_option linter.unusedVariables false
set_option maxRecDepth 8000

theorem cnt_mono {F G : Nat → Prop} (h : ∀ i, F i → G i) (n : Nat) : cnt F n ≤ cnt G n := by
  have := cnt_sub G F h n
  omega
theorem cnt_bound {F : Nat → Prop} {b : Nat} (h : ∀ i, F i → i < b) (n : Nat) : cnt F n ≤ b := by
  have := cnt_mono (G := fun i => 0 ≤ i ∧ i < b) (fun i hi => ⟨Nat.zero_le _, h i hi⟩) n
  rw [cnt_seg 0 b (Nat.zero_le _)] at this
  omega
theorem cnt_empty {F : Nat → Prop} (h : ∀ i, ¬ F i) (n : Nat) : cnt F n = 0 := by
  have := cnt_bound (F := F) (b := 0) (fun i hi => absurd hi (h i)) n
  omega
theorem cn_some {F : Nat → Prop} {i : Nat} (h : F i) : ∃ k q, k ≤ 10 ∧ cnN F k q := by
  obtain ⟨o, q, _, h2, h3, _⟩ := cn_max F 10 0 i rfl (fun j e => by simp at e; rw [e]; exact h)
  exact ⟨o, q, h2, h3⟩
theorem cnt_some {F : Nat → Prop} {n : Nat} (h : cnt F n ≠ 0) : ∃ i, F i := by
  apply Classical.byContradiction
  intro c
  exact h (cnt_empty (fun i hi => c ⟨i, hi⟩) n)
/-- as many keys as frames -/
theorem cnt_keys {F : Nat → Prop} {L : List Int} (hB : Bnd F) (a : Asc L) (h : ∀ x : Int, x ∈ L ↔ ∃ j : Nat, x = (j : Int) ∧ F j) : L.length = cnt F 1048576 := by
  have e := cnt_list 0 1048576 L (asc_nd a) (fun x hx => by
    obtain ⟨j, rfl, hj⟩ := (h x).1 hx
    exact ⟨j, by simp, by have := hB j hj; simp; omega⟩)
  have e2 : inL 0 L = F := by
    funext i; apply propext
    constructor
    · rintro ⟨x, hx, q, hq, hi⟩
      obtain ⟨j, rfl, hj⟩ := (h x).1 hx
      simp at hq hi
      have : j = q := by omega
      rw [hi, ← this]; exact hj
    · intro hi
      exact ⟨i, (h i).2 ⟨i, rfl, hi⟩, i, by simp, by simp⟩
  rw [e2] at e
  simp at e
  exact e.symm

/-- frames are free or given, each once -/
structure St (All F : Nat → Prop) (G : Int → Option Int) : Prop where
  bnd : Bnd All
  sub : ∀ i, F i → All i
  giv : ∀ x o, G x = some o → ∃ k p : Nat, k ≤ 10 ∧ o = (k : Int) ∧ x = ((p * 2 ^ k : Nat) : Int) ∧ ∀ i, i / 2 ^ k = p → All i ∧ ¬ F i
  dj : ∀ k p k' p' i : Nat, k ≤ 10 → k' ≤ 10 → G ((p * 2 ^ k : Nat) : Int) = some (k : Int) → G ((p' * 2 ^ k' : Nat) : Int) = some (k' : Int) → i / 2 ^ k = p → i / 2 ^ k' = p' → k = k' ∧ p = p'
  all : ∀ i, All i → F i ∨ ∃ k p : Nat, k ≤ 10 ∧ G ((p * 2 ^ k : Nat) : Int) = some (k : Int) ∧ i / 2 ^ k = p
theorem St.start {All : Nat → Prop} (h : Bnd All) : St All All noneF := ⟨h, fun i hi => hi, (fun x o e => by cases e), (fun k p k' p' i _ _ e => by cases e), fun i hi => Or.inl hi⟩
theorem St.blk {All F : Nat → Prop} {G : Int → Option Int} (H : St All F G) {k p : Nat} (hG : G ((p * 2 ^ k : Nat) : Int) = some (k : Int)) : k ≤ 10 ∧ p * 2 ^ k + 2 ^ k ≤ 1048576 ∧ ∀ i, i / 2 ^ k = p → All i ∧ ¬ F i := by
  obtain ⟨k', p', h1, h2, h3, h4⟩ := H.giv _ _ hG
  obtain rfl : k = k' := by omega
  obtain rfl : p = p' := mul_inj h3
  have pp := p2pos k
  have := H.bnd _ (h4 (p * 2 ^ k + (2 ^ k - 1)) ((in_blk k p _).2 ⟨by omega, by omega⟩)).1
  refine ⟨h1, ?_, h4⟩
  generalize 2 ^ k = Q at *
  generalize p * Q = X at *
  omega
theorem St.new {All F : Nat → Prop} {G : Int → Option Int} (H : St All F G) {o p f q d : Nat} (T : Took F o p f q d) : G ((p * 2 ^ o : Nat) : Int) = none := by
  cases hg : G ((p * 2 ^ o : Nat) : Int) with
  | none => rfl
  | some v =>
    exfalso
    obtain ⟨k, p', h1, h2, h3, h4⟩ := H.giv _ _ hg
    have e : p * 2 ^ o = p' * 2 ^ k := Int.ofNat.inj h3
    refine (h4 (p' * 2 ^ k) (blk_ne k p')).2 ?_
    rw [← e]
    exact T.all _ (blk_ne o p)
theorem St.take {All F : Nat → Prop} {G : Int → Option Int} (H : St All F G) {o p f q d : Nat} (ho : o ≤ 10) (T : Took F o p f q d) : St All (fun i => F i ∧ ¬ i / 2 ^ o = p) (setF G ((p * 2 ^ o : Nat) : Int) (some (o : Int))) := by
  have gn := H.new T
  have key : ∀ k' p' : Nat, setF G ((p * 2 ^ o : Nat) : Int) (some (o : Int)) ((p' * 2 ^ k' : Nat) : Int) = some (k' : Int) → (k' = o ∧ p' = p) ∨ G ((p' * 2 ^ k' : Nat) : Int) = some (k' : Int) := fun k' p' e => by
    by_cases c : ((p' * 2 ^ k' : Nat) : Int) = ((p * 2 ^ o : Nat) : Int)
    · rw [c, set_same] at e
      have e1 : k' = o := by have := Option.some.inj e; omega
      subst e1
      exact Or.inl ⟨rfl, mul_inj c⟩
    · rw [set_other _ _ _ _ c] at e
      exact Or.inr e
  refine ⟨H.bnd, fun i hi => H.sub i hi.1, fun x v e => ?_, fun k1 p1 k2 p2 i l1 l2 e1 e2 i1 i2 => ?_, fun i hi => ?_⟩
  · by_cases c : x = ((p * 2 ^ o : Nat) : Int)
    · subst c
      rw [set_same] at e
      exact ⟨o, p, ho, (Option.some.inj e).symm, rfl, fun i hi => ⟨H.sub i (T.all i hi), fun h => h.2 hi⟩⟩
    · rw [set_other _ _ _ _ c] at e
      obtain ⟨k, p', h1, h2, h3, h4⟩ := H.giv x v e
      exact ⟨k, p', h1, h2, h3, fun i hi => ⟨(h4 i hi).1, fun h => (h4 i hi).2 h.1⟩⟩
  · rcases key k1 p1 e1 with ⟨r1, r2⟩ | r
    · rcases key k2 p2 e2 with ⟨s1, s2⟩ | s
      · exact ⟨r1.trans s1.symm, r2.trans s2.symm⟩
      · subst r1; subst r2
        exact absurd (T.all i i1) ((H.blk s).2.2 i i2).2
    · rcases key k2 p2 e2 with ⟨s1, s2⟩ | s
      · subst s1; subst s2
        exact absurd (T.all i i2) ((H.blk r).2.2 i i1).2
      · exact H.dj k1 p1 k2 p2 i l1 l2 r s i1 i2
  · rcases H.all i hi with h | ⟨k, p', h1, h2, h3⟩
    · by_cases c : i / 2 ^ o = p
      · exact Or.inr ⟨o, p, ho, set_same _ _ _, c⟩
      · exact Or.inl ⟨h, c⟩
    · refine Or.inr ⟨k, p', h1, ?_, h3⟩
      rw [set_other _ _ _ _ (fun c => by rw [c, gn] at h2; cases h2)]
      exact h2
theorem St.give {All F : Nat → Prop} {G : Int → Option Int} (H : St All F G) {k p : Nat} (hG : G ((p * 2 ^ k : Nat) : Int) = some (k : Int)) : St All (fun i => F i ∨ i / 2 ^ k = p) (setF G ((p * 2 ^ k : Nat) : Int) none) := by
  obtain ⟨hk, _, hb⟩ := H.blk hG
  have key : ∀ (x v : Int), setF G ((p * 2 ^ k : Nat) : Int) none x = some v → x ≠ ((p * 2 ^ k : Nat) : Int) ∧ G x = some v := fun x v e => by
    by_cases c : x = ((p * 2 ^ k : Nat) : Int)
    · rw [c, set_same] at e; cases e
    · rw [set_other _ _ _ _ c] at e; exact ⟨c, e⟩
  refine ⟨H.bnd, fun i hi => hi.elim (H.sub i) (fun h => (hb i h).1), fun x v e => ?_, fun k1 p1 k2 p2 i l1 l2 e1 e2 i1 i2 => H.dj k1 p1 k2 p2 i l1 l2 (key _ _ e1).2 (key _ _ e2).2 i1 i2, fun i hi => ?_⟩
  · obtain ⟨ne, e'⟩ := key x v e
    obtain ⟨k', p', h1, h2, h3, h4⟩ := H.giv x v e'
    refine ⟨k', p', h1, h2, h3, fun i hi => ⟨(h4 i hi).1, fun h => ?_⟩⟩
    rcases h with h | h
    · exact (h4 i hi).2 h
    · subst h2
      rw [h3] at e'
      obtain ⟨r1, r2⟩ := H.dj k' p' k p i h1 hk e' hG hi h
      subst r1; subst r2
      exact ne h3
  · rcases H.all i hi with h | ⟨k', p', h1, h2, h3⟩
    · exact Or.inl (Or.inl h)
    · by_cases c : i / 2 ^ k = p
      · exact Or.inl (Or.inr c)
      · refine Or.inr ⟨k', p', h1, ?_, h3⟩
        rw [set_other _ _ _ _ (fun e => ?_)]
        · exact h2
        · rw [e, hG] at h2
          have e1 : k = k' := by have := Option.some.inj h2; omega
          subst e1
          exact c (h3.trans (mul_inj e))
theorem St.wf {All F : Nat → Prop} {G : Int → Option Int} (H : St All F G) {x : Int} (h : (G x).isSome = true) : 0 ≤ x ∧ x < 1048576 := by
  obtain ⟨v, hv⟩ := Option.isSome_iff_exists.1 h
  obtain ⟨k, p, h1, h2, h3, h4⟩ := H.giv x v hv
  have := H.bnd _ (h4 _ (blk_ne k p)).1
  omega
/-- a buddy beside the blocks Z, which are as they were in w3 -/
def Iv (Z : Nat → Prop) (w3 : World) (All : Nat → Prop) (b N : Nat) (W : World) : Prop := ∃ F G, Bu Z W b N F G ∧ St All F G ∧ Kf (fun j => ¬ Z j) w3 W
variable {Z : Nat → Prop} {w3 W : World} {All : Nat → Prop} {b N : Nat}
theorem Iv.mono (H : Iv Z w3 All b N W) {N' : Nat} (h : N ≤ N') : Iv Z w3 All b N' W := by
  obtain ⟨F, G, hB, r⟩ := H
  exact ⟨F, G, hB.mono h, r⟩
theorem Iv.below (H : Iv Z w3 All b N W) {W' : World} (hb : Below W.heap.size W W') : Iv Z w3 All b N W' := by
  obtain ⟨F, G, hB, hS, k⟩ := H
  exact ⟨F, G, hB.below hb, hS, k.trans (Kf.below hb)⟩
theorem Iv.drew (H : Iv Z w3 All b N W) : Iv Z w3 All b N W.drew := H.below (below_drew (Below.refl _ _))
theorem Iv.take (H : Iv Z w3 All b N W) (x : Int) (hn : N + 20 < 1048576) : Calls Try.prog 15 #[.pointer (some ⟨b, 0, none⟩), .int .i64 x] W fun e w' => (∃ a c, e = .returned (.tuple #[.int .i64 a, .int .i64 c])) ∧ Iv Z w3 All b (N + 20) w' := by
  obtain ⟨F, G, hB, hS, kf⟩ := H
  by_cases c : 0 ≤ x ∧ x ≤ 10
  · obtain ⟨o, rfl⟩ : ∃ o : Nat, x = (o : Int) := ⟨x.toNat, by omega⟩
    refine (hB.take o (by omega) hn).mono ?_
    rintro e w' (⟨he, hw, _⟩ | ⟨p, f, q, d, he, T, hB2, k⟩)
    · subst hw
      exact ⟨⟨_, _, he⟩, F, G, hB.mono (by omega), hS, kf⟩
    · exact ⟨⟨_, _, he⟩, _, _, hB2, hS.take (by omega) T, kf.trans k⟩
  · refine (take_no b x c W).mono ?_
    rintro e w' ⟨he, hw⟩
    subst hw
    exact ⟨⟨_, _, he⟩, F, G, hB.mono (by omega), hS, kf⟩
theorem Iv.give (H : Iv Z w3 All b N W) {x : Int} (hx : (Lit.int .i64 x).wf = true) (hn : N < 1048576) : Calls Try.prog 19 #[.pointer (some ⟨b, 0, none⟩), .int .i64 x] W fun e w' => (∃ c, e = .returned (.int .i64 c)) ∧ Iv Z w3 All b (N + 1) w' := by
  obtain ⟨F, G, hB, hS, kf⟩ := H
  cases hg : G x with
  | none =>
    refine (hB.give_no hx hg).mono ?_
    rintro e w' ⟨he, hw⟩
    subst hw
    exact ⟨⟨_, he⟩, F, G, hB.mono (by omega), hS, kf⟩
  | some v =>
    obtain ⟨k, p, h1, h2, h3, h4⟩ := hS.giv x v hg
    subst h2
    have hg' : G ((p * 2 ^ k : Nat) : Int) = some (k : Int) := by rw [← h3]; exact hg
    obtain ⟨_, top, hb⟩ := hS.blk hg'
    refine (hB.give k p h1 top (fun i hi => (hb i hi).2) hn h3 hg).mono ?_
    rintro e w' ⟨he, hB2, k2⟩
    rw [h3] at hB2
    exact ⟨⟨_, he⟩, _, _, hB2, hS.give hg', kf.trans k2⟩
theorem Iv.given (H : Iv Z w3 All b N W) (hn : N ≤ 1048600) : Calls Try.prog 18 #[.pointer (some ⟨b, 0, none⟩)] W fun e w' => ∃ (p : Option Addr) (L : List Int) (c : Nat), e = .returned (.slice p L.length c) ∧ Lst w' (.slice p L.length c) L ∧ (∀ x, x ∈ L → (Lit.int .i64 x).wf = true) ∧ L.length ≤ 1048576 ∧ Below W.heap.size W w' := by
  obtain ⟨F, G, hB, hS, kf⟩ := H
  refine (hB.given hn).mono ?_
  rintro e w' ⟨v, L, he, hA, hM, hO, hb⟩
  have hl := lst_row hO
  obtain ⟨p, c, hv, r⟩ := hl
  have bx : ∀ x, x ∈ L → 0 ≤ x ∧ x < 1048576 := fun x hx => hS.wf ((hM x).1 hx)
  have ll : L.length ≤ 1048576 := by
    have e := cnt_list 0 1048576 L (asc_nd hA) (fun x hx => ⟨x.toNat, by have := bx x hx; simp; omega, by have := bx x hx; simp; omega⟩)
    have := cnt_le (inL 0 L) 1048576
    simp at e
    omega
  exact ⟨p, L, c, by rw [he, hv], ⟨p, c, rfl, r⟩, fun x hx => wf64 (by have := bx x hx; omega) (by have := bx x hx; omega), ll, hb⟩
set_option maxHeartbeats 1000000 in
theorem which_any (p : Option Addr) (L : List Int) (c : Nat) (kd n : Int) (hn : (Lit.int .i64 n).wf = true) (w : World) (H : Lst w (.slice p L.length c) L) (hL : ∀ x, x ∈ L → (Lit.int .i64 x).wf = true) (l9 : L.length ≤ 1048576) :
    Calls Try.prog 17 #[.slice p L.length c, .agg #[.int .i64 kd, .int .i64 n]] w fun e w' => (∃ x, e = .returned (.int .i64 x) ∧ (Lit.int .i64 x).wf = true) ∧ Below w.heap.size w w' := by
  obtain ⟨p', c', e, rd⟩ := H
  cases e
  have RD : Hid (∀ i (hi : i < L.length), ∃ g, p = some ⟨g, 0, none⟩ ∧ g < w.heap.size ∧ w.cell? ⟨g, i, none⟩ = some (.int .i64 L[i])) := rd
  have WL : Hid (∀ i (hi : i < L.length), (Lit.int .i64 L[i]).wf = true) := fun i hi => hL _ (List.getElem_mem hi)
  obtain ⟨m, hm⟩ : ∃ m, m = L.length := ⟨_, rfl⟩
  have WN : Hid ((Lit.int .i64 n).wf = true) := hn
  have nb : -9223372036854775808 ≤ n ∧ n ≤ 9223372036854775807 := by
    simp [Lit.wf, IntKind.min, IntKind.max, IntKind.signed, IntKind.bits] at hn; omega
  have HM : Hid (m = L.length) := hm
  rw [← hm] at l9 ⊢
  clear rd hL hn hm
  have other : Hid (∀ (x : Int) (W : World), (Lit.int .i64 x).wf = true → True) := fun _ _ _ => trivial
  clear other
  by_cases k3 : kd = 3
  rotate_left
  · have e3 : (kd == 3) = false := by simp [k3]
    go_enter Try.func17, Try.ntmps17
    go_wp2_with fail
    go_ret
    exact ⟨⟨n, rfl, WN.out⟩, Go.Joins.below_alloc1 _ _⟩
  have e3 : (kd == 3) = true := by simp [k3]
  by_cases m0 : 0 < m
  rotate_left
  · have d0 : decide ((0 : Int) < (m : Int)) = false := by simp; omega
    clear k3
    go_enter Try.func17, Try.ntmps17
    go_wp2_with fail
    go_ret
    exact ⟨⟨n, rfl, WN.out⟩, Go.Joins.below_alloc1 _ _⟩
  have d0 : decide ((0 : Int) < (m : Int)) = true := by simp; omega
  have z1 : ((m : Int) == 0) = false := by simp; omega
  have z2 : ¬ (m : Int) = 0 := by omega
  have tb : -(m : Int) < n.tmod m ∧ n.tmod m < m := ⟨by have := Int.lt_tmod_of_pos n (show (0 : Int) < m by omega); omega, Int.tmod_lt_of_pos n (by omega)⟩
  have w3' : IntKind.i64.wrap (n.tmod (m : Int)) = n.tmod (m : Int) := by rw [IntKind.wrap_i64]; omega
  have w4' : wrap64 (n.tmod (m : Int)) = n.tmod (m : Int) := by unfold wrap64; omega
  obtain ⟨t, ht⟩ : ∃ t, n.tmod (m : Int) = t := ⟨_, rfl⟩
  rw [ht] at tb w3' w4'
  clear k3
  by_cases t0 : t < 0
  · have dt : decide (t < 0) = true := by simp [t0]
    obtain ⟨i, hi⟩ : ∃ i : Nat, t + (m : Int) = (i : Int) := ⟨(t + m).toNat, by omega⟩
    have im : i < L.length := by have := HM.out; omega
    obtain ⟨g, rfl, lg, q⟩ := RD.out i im
    have wx := WL.out i im
    generalize L[i] = x at *
    have wi : wrap64 (t + (m : Int)) = (i : Int) := by unfold wrap64; omega
    have i0 : decide ((i : Int) < 0) = false := by simp
    have i1 : decide ((i : Int) < (m : Int)) = true := by simp; omega
    have WX : Hid ((Lit.int .i64 x).wf = true) := wx
    clear wx im
    go_enter Try.func17, Try.ntmps17
    go_wp2_with fail
    go_ret
    exact ⟨⟨x, rfl, WX.out⟩, Go.Joins.below_alloc1 _ _⟩
  · have dt : decide (t < 0) = false := by simp; omega
    obtain ⟨i, rfl⟩ : ∃ i : Nat, t = (i : Int) := ⟨t.toNat, by omega⟩
    have im : i < L.length := by have := HM.out; omega
    obtain ⟨g, rfl, lg, q⟩ := RD.out i im
    have wx := WL.out i im
    generalize L[i] = x at *
    have i1 : decide ((i : Int) < (m : Int)) = true := by simp; omega
    have WX : Hid ((Lit.int .i64 x).wf = true) := wx
    clear wx im
    go_enter Try.func17, Try.ntmps17
    go_wp2_with fail
    go_ret
    exact ⟨⟨x, rfl, WX.out⟩, Go.Joins.below_alloc1 _ _⟩
end Go.Proofs.Ytpjejjonkdhelaa
