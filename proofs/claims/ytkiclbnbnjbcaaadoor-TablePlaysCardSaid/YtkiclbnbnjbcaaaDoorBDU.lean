/- A buddy: how great its heaps and maps can be. -/
import Derived.Test.YtkiclbnbnjbcaaaDoorBDL
import Derived.Lib.SlKeysI
namespace Go.Proofs.YtkiclbnbnjbcaaaDoor.Bd
open Go.ChangeShapes Go.WideShapes Go.ChangeAt Go.RowKit Go.Maps
set_option linter.unusedSimpArgs false
set_option linter.unusedVariables false
set_option maxRecDepth 8000

theorem mapc_keys {w : World} {b n c : Nat} {f : Int → Option Int} (h : MapC w b n c f) : ∃ K : List Int, K.Nodup ∧ (∀ x, x ∈ K ↔ (f x).isSome = true) ∧ K.length = c := by
  obtain ⟨D0, hown, hc, hf⟩ := h
  obtain ⟨es, hD, hpw, _⟩ := hown.entries keyLaw
  obtain ⟨es', hD', hko⟩ := hown.keysOf
  obtain rfl : es = es' := by rw [hD] at hD'; simpa using hD'
  subst hD
  have hk : ∀ p ∈ es, ∃ x, p.1 = .int .i64 x := fun p hp => by obtain ⟨v, hv⟩ := hko p hp; obtain ⟨x, _, hx, _⟩ := Maps.keyOf_i64 Tryd.underlying3 hv; exact ⟨x, hx⟩
  refine ⟨es.map fun p => Go.intOf p.1, ?_, fun x => ?_, ?_⟩
  · refine List.pairwise_map.2 (hpw.imp_of_mem fun {p q} hp' hq' hne e => hne ?_)
    obtain ⟨a, ha⟩ := hk p hp'
    obtain ⟨b, hb⟩ := hk q hq'
    rw [ha, hb] at e ⊢
    exact congrArg _ e
  · rw [← (hf x).1, has_eq, List.any_eq_true, List.mem_map]
    constructor
    · rintro ⟨p, hp', rfl⟩
      obtain ⟨a, ha⟩ := hk p hp'
      exact ⟨p, hp', by rw [ha]; simp [Lit.sameKey, Go.intOf]⟩
    · rintro ⟨p, hp', hs⟩
      obtain ⟨a, ha⟩ := hk p hp'
      refine ⟨p, hp', ?_⟩
      rw [ha] at hs ⊢
      simpa [Lit.sameKey, Go.intOf] using hs
  · rw [List.length_map, ← hc]; rfl
theorem cnt_mono {F G : Nat → Prop} (h : ∀ i, F i → G i) (n : Nat) : cnt F n ≤ cnt G n := by
  have := cnt_sub G F h n
  omega
theorem cnt_bound {F : Nat → Prop} {b : Nat} (h : ∀ i, F i → i < b) (n : Nat) : cnt F n ≤ b := by
  have := cnt_mono (G := fun i => 0 ≤ i ∧ i < b) (fun i hi => ⟨Nat.zero_le _, h i hi⟩) n
  rw [cnt_seg 0 b (Nat.zero_le _)] at this
  omega
theorem cnt_empty {F : Nat → Prop} (h : ∀ i, ¬ F i) (n : Nat) : cnt F n = 0 := by
  have := cnt_bound (F := F) (b := 0) (fun i hi => absurd hi (h i)) n
  omega
theorem cn_some {F : Nat → Prop} {i : Nat} (h : F i) : ∃ k q, k ≤ 10 ∧ cnN F k q := by
  obtain ⟨o, q, _, h2, h3, _⟩ := cn_max F 10 0 i rfl (fun j e => by simp at e; rw [e]; exact h)
  exact ⟨o, q, h2, h3⟩
theorem cnt_some {F : Nat → Prop} {n : Nat} (h : cnt F n ≠ 0) : ∃ i, F i := by
  apply Classical.byContradiction
  intro c
  exact h (cnt_empty (fun i hi => c ⟨i, hi⟩) n)
theorem nd_nodup {K : List Int} (k : K.Nodup) : Nd K := fun i j x ij e1 e2 => by
  obtain ⟨h1, g1⟩ := List.getElem?_eq_some_iff.1 e1
  obtain ⟨h2, g2⟩ := List.getElem?_eq_some_iff.1 e2
  have h : ∀ i j (h1 : i < K.length) (h2 : j < K.length), i < j → K[i] ≠ K[j] := fun i j h1 h2 l => List.pairwise_iff_getElem.1 k i j h1 h2 l
  rcases Nat.lt_or_gt_of_ne ij with c | c
  · exact h i j h1 h2 c (g1.trans g2.symm)
  · exact h j i h2 h1 c (g2.trans g1.symm)
/-- unlike numbers below m are at most m -/
theorem nd_len {h : List Int} (nd : Nd h) {m : Nat} (hm : ∀ a ∈ h, 0 ≤ a ∧ a < (m : Int)) : h.length ≤ m := by
  have e := cnt_list 0 m h nd (fun a ha => by
    have := hm a ha
    exact ⟨a.toNat, by simp; omega, by simp; omega⟩)
  have l := cnt_bound (F := inL 0 h) (b := m) (fun i hi => by
    obtain ⟨a, ha, q, hq, e⟩ := hi
    have := hm a ha
    simp at hq e
    omega) m
  simp at e
  omega
theorem placed_nd {h : List Int} {F : Int → Option Int} (H : Placed h F) : Nd h := fun i j x ij e1 e2 => by
  obtain ⟨h1, g1⟩ := List.getElem?_eq_some_iff.1 e1
  obtain ⟨h2, g2⟩ := List.getElem?_eq_some_iff.1 e2
  exact H.ne h1 h2 ij (g1.trans g2.symm)
theorem Bs.tight {w : World} {base b q mb N : Nat} {C : List Value} {sv : Value} {A : Int → Prop} (H : Bs w base b q mb N C sv A) {m : Nat} (hm : ∀ a, A a → 0 ≤ a ∧ a < (m : Int)) : Bs w base b q mb m C sv A := by
  obtain ⟨h, F, n, bl, pl, hp, _, hA⟩ := H
  obtain ⟨K, k1, k2, k3⟩ := mapc_keys bl.mp
  have l1 : h.length ≤ m := nd_len (placed_nd pl) (fun a ha => hm a ((hA a).1 ha))
  have l2 : K.length ≤ m := nd_len (nd_nodup k1) (fun a ha => hm a ((hA a).1 ((placed_mem pl a).1 ((k2 a).1 ha))))
  exact ⟨h, F, n, bl, pl, hp, ⟨l1, by omega⟩, hA⟩
theorem Bd.tight {w : World} {base b gb N : Nat} {C : List Value} {mbs : Nat → Nat} {svs : Nat → Value} {A : Nat → Int → Prop} {G : Int → Option Int} (H : Bd w base b gb N C mbs svs A G) {m : Nat} (hm : ∀ o, o < 11 → ∀ a, A o a → 0 ≤ a ∧ a < (m : Int)) (hg : ∀ x, (G x).isSome = true → 0 ≤ x ∧ x < (m : Int)) : Bd w base b gb m C mbs svs A G := by
  refine ⟨fun o ho => (H.bs o ho).tight (hm o ho), H.cg, ?_, H.dm, H.dg, H.ds, H.gb, H.bb⟩
  obtain ⟨n, _, mp⟩ := H.gm
  obtain ⟨K, k1, k2, k3⟩ := mapc_keys mp
  have := nd_len (nd_nodup k1) (fun a ha => hg a ((k2 a).1 ha))
  exact ⟨n, by omega, mp⟩
theorem Bu.tight {Z : Nat → Prop} {W : World} {b N : Nat} {F : Nat → Prop} {G : Int → Option Int} (H : Bu Z W b N F G) {m : Nat} (hm : ∀ i, F i → i < m) (hg : ∀ x, (G x).isSome = true → 0 ≤ x ∧ x < (m : Int)) : Bu Z W b m F G := by
  obtain ⟨hF, base, gb, mbs, s, ⟨C, s', h1, h2, h3⟩, hZ⟩ := H
  refine ⟨hF, base, gb, mbs, s, ⟨C, s', h1.tight (fun o ho a ha => ?_) hg, h2, h3⟩, hZ⟩
  obtain ⟨_, q, e, c⟩ := ha
  have := hm _ (c.1 (q * 2 ^ o) (Nat.mul_div_cancel _ (p2pos o)))
  rw [e]
  omega
/-- a frame is taken: some free one; none where none is free -/
theorem Bu.take1 {Z : Nat → Prop} {W : World} {b : Nat} {F : Nat → Prop} {G : Int → Option Int} (H : Bu Z W b 1000000 F G) (hm : ∀ i, F i → i < 1000000) (hg : ∀ x, (G x).isSome = true → 0 ≤ x ∧ x < 1000000) (hs : ∃ i, F i) :
    Calls Tryd.prog 80 #[.pointer (some ⟨b, 0, none⟩), .int .i64 0] W fun e w' => ∃ p : Nat, e = .returned (.tuple #[.int .i64 p, .int .i64 0]) ∧ F p ∧ Bu Z w' b 1000000 (fun i => F i ∧ i ≠ p) (setF G p (some 0)) ∧ Kf (fun j => ¬ Z j) W w' := by
  refine (H.take 0 (by omega) (by omega)).mono ?_
  rintro e w' (⟨_, _, h⟩ | ⟨p, f, q, d, he, T, hB2, kf⟩)
  · exfalso
    obtain ⟨x, hx⟩ := hs
    obtain ⟨k, q, hk, hcn⟩ := cn_some hx
    exact h k q (Nat.zero_le _) hk hcn
  · have Fp : F p := T.all p (by simp)
    have e1 : ((p * 2 ^ 0 : Nat) : Int) = (p : Int) := by simp
    rw [e1] at he hB2
    have e2 : (fun i => F i ∧ ¬ i / 2 ^ 0 = p) = (fun i => F i ∧ i ≠ p) := by
      funext i; simp
    rw [e2] at hB2
    refine ⟨p, he, Fp, hB2.tight (fun i hi => hm i hi.1) (fun x hx => ?_), kf⟩
    by_cases c : x = (p : Int)
    · have := hm p Fp; omega
    · rw [set_other _ _ _ _ c] at hx; exact hg x hx
theorem Bu.take0 {Z : Nat → Prop} {W : World} {b : Nat} {F : Nat → Prop} {G : Int → Option Int} (H : Bu Z W b 1000000 F G) (hs : ∀ i, ¬ F i) :
    Calls Tryd.prog 80 #[.pointer (some ⟨b, 0, none⟩), .int .i64 0] W fun e w' => e = .returned (.tuple #[.int .i64 0, .int .i64 7]) ∧ w' = W := by
  refine (H.take 0 (by omega) (by omega)).mono ?_
  rintro e w' (⟨he, hw, h⟩ | ⟨p, f, q, d, he, T, hB2, kf⟩)
  · exact ⟨he, hw⟩
  · exact absurd (T.all p (by simp)) (hs p)
/-- a frame is given back -/
theorem Bu.give1 {Z : Nat → Prop} {W : World} {b : Nat} {F : Nat → Prop} {G : Int → Option Int} (H : Bu Z W b 1000000 F G) (hm : ∀ i, F i → i < 1000000) (hg : ∀ x, (G x).isSome = true → 0 ≤ x ∧ x < 1000000) (p : Nat) (hp : G (p : Int) = some 0) (hf : ¬ F p) :
    Calls Tryd.prog 74 #[.pointer (some ⟨b, 0, none⟩), .int .i64 p] W fun e w' => e = .returned (.int .i64 0) ∧ Bu Z w' b 1000000 (fun i => F i ∨ i = p) (setF G p none) ∧ Kf (fun j => ¬ Z j) W w' := by
  have p1 := hg p (by rw [hp]; rfl)
  have h := H.give 0 p (by omega) (by simp; omega) (fun i hi => by simp at hi; rw [hi]; exact hf) (by omega) (x := (p : Int)) (by simp) hp
  refine h.mono ?_
  rintro e w' ⟨he, hB, kf⟩
  have e2 : (fun i => F i ∨ i / 2 ^ 0 = p) = (fun i => F i ∨ i = p) := by
    funext i; simp
  rw [e2] at hB
  refine ⟨he, hB.tight (fun i hi => ?_) (fun x hx => ?_), kf⟩
  · rcases hi with r | r
    · exact hm i r
    · omega
  · by_cases c : x = (p : Int)
    · subst c; rw [set_same] at hx; cases hx
    · rw [set_other _ _ _ _ c] at hx; exact hg x hx
end Go.Proofs.YtkiclbnbnjbcaaaDoor.Bd
