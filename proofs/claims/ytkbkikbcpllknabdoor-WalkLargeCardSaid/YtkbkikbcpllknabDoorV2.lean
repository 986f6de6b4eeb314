/- What a walk finds hangs on the access but for its rights. -/
import Derived.Test.YtkbkikbcpllknabDoorV1
namespace Go.Proofs.YtkbkikbcpllknabDoor
open Go.ChangeShapes Go.WideShapes Go.ChangeAt Go.RowKit Go.Maps
set_option linter.unusedSimpArgs false
set_option linter.unusedVariables false
set_option maxRecDepth 8000

theorem bad_e (has : Int → Bool) (M : Int → Int) (T P L : Int) : (∀ ad cd, badV has M T P L ad cd = none) ∨ ∃ e, e ≠ 0 ∧ ∀ ad cd, ∃ a c, badV has M T P L ad cd = some (a, c, e) := by
  unfold badV
  by_cases c1 : chkG has (T * 4096 + P * 8) 8 ≠ 0
  · exact Or.inr ⟨_, c1, fun ad cd => ⟨0, 0, by rw [if_pos c1]⟩⟩
  · by_cases c2 : bt (entV M T P) = false
    · exact Or.inr ⟨9, by omega, fun ad cd => ⟨ad, cd, by rw [if_neg c1, if_pos c2]⟩⟩
    · by_cases c3 : resV (entV M T P) L = true
      · exact Or.inr ⟨9, by omega, fun ad cd => ⟨ad, cd + 9, by rw [if_neg c1, if_neg c2, if_pos c3]⟩⟩
      · exact Or.inl (fun ad cd => by rw [if_neg c1, if_neg c2, if_neg c3])
theorem bad_there {has : Int → Bool} {M : Int → Int} {T P L ad cd : Int} (h : badV has M T P L ad cd = none) : bt (entV M T P) = true ∧ chkG has (T * 4096 + P * 8) 8 = 0 := by
  unfold badV at h
  split at h
  · cases h
  split at h
  · cases h
  split at h
  · cases h
  · rename_i c1 c2 c3
    exact ⟨by simpa using c2, by simpa using c1⟩
/-- the table and the place of the last entry -/
def lastTP (M : Int → Int) (root addr : Int) : Int × Int :=
  if bt (entV M (entV M (entV M root (addr / 4096 / 512 / 512 / 512 % 512) / 4096 % 1048576) (addr / 4096 / 512 / 512 % 512) / 4096 % 1048576) (addr / 4096 / 512 % 512) / 128) = true then
    (entV M (entV M root (addr / 4096 / 512 / 512 / 512 % 512) / 4096 % 1048576) (addr / 4096 / 512 / 512 % 512) / 4096 % 1048576, addr / 4096 / 512 % 512)
  else (entV M (entV M (entV M root (addr / 4096 / 512 / 512 / 512 % 512) / 4096 % 1048576) (addr / 4096 / 512 / 512 % 512) / 4096 % 1048576) (addr / 4096 / 512 % 512) / 4096 % 1048576, addr / 4096 % 512)
theorem last_lk {M M' : Int → Int} (h : Lkm M M') (root : Int) {a b : Int} (hp : a / 4096 = b / 4096) : lastTP M' root b = lastTP M root a := by
  unfold lastTP
  rw [← hp]
  rw [← (h root _).fr, ← (h _ _).fr, ← (h _ _).b7, ← (h _ _).fr]
/-- what is found, whatever the access -/
structure Hit (has : Int → Bool) (M : Int → Int) (root addr : Int) where
  fr : Int
  pw : Bool
  pu : Bool
  px : Bool
  g : Bool
  l : Bool
  T : Int
  P : Int
  tp : (T, P) = lastTP M root addr
abbrev p0of (addr : Int) : Int := addr / 4096 / 512 / 512 / 512 % 512
structure Hit.says {has : Int → Bool} {M : Int → Int} {root addr : Int} (h : Hit has M root addr) (x u f : Bool) (r : WR) : Prop where
  er : r.er = 0
  fa : r.fa = 0
  fc : r.fc = 0
  fr : r.fr = h.fr
  pw : r.pw = h.pw
  pu : r.pu = h.pu
  px : r.px = h.px
  g : r.g = h.g
  l : r.l = h.l
  d : r.d = (bt (entV M h.T h.P / 64) || x)
  m : Lkm M r.M
  e : entV r.M h.T h.P = orb (entV M h.T h.P) (if x then 96 else 32)
  b : bt (entV r.M root (p0of addr)) = true ∧ bt (entV r.M root (p0of addr) / 32) = true ∧ chkG has (root * 4096 + p0of addr * 8) 8 = 0
theorem ent_top (M : Int → Int) (T P v : Int) (h0 : 0 ≤ v) (h1 : v < 18446744073709551616) : entV (mset M (T * 4096 + P * 8) 8 v) T P = v := by
  unfold entV; exact ld_mset8 M _ v h0 h1
theorem b5_mark {M M1 : Int → Int} (hM : ∀ t, 0 ≤ M t ∧ M t < 256) (T P T0 P0 : Int) (b : Nat) (hb : b = 32 ∨ b = 96) (h : bt (entV M1 T P / 32) = true) : bt (entV (mset M1 (T0 * 4096 + P0 * 8) 8 (orb (entV M T0 P0) b)) T P / 32) = true := by
  have bd := ent_bd hM T0 P0
  have ob := orb_bd (entV M T0 P0) b bd.1 bd.2 (by omega) (by omega)
  rw [show T0 * 4096 + P0 * 8 = 8 * (T0 * 512 + P0) by omega, ent_set M1 _ _ T P ob.1 ob.2]
  split
  · rw [orb_u _ b bd.1 bd.2 (by omega)]
    rcases hb with rfl | rfl <;> simp
  · exact h
theorem mark_first {M : Int → Int} (hM : ∀ t, 0 ≤ M t ∧ M t < 256) (T P : Int) : bt (entV (mset M (T * 4096 + P * 8) 8 (orb (entV M T P) ((32 : Nat) : Int))) T P / 32) = true := by
  have bd := ent_bd hM T P
  have ob := orb_bd (entV M T P) ((32 : Nat) : Int) bd.1 bd.2 (by omega) (by omega)
  rw [ent_top M T P _ ob.1 ob.2, orb_u _ 32 bd.1 bd.2 (by omega)]
  simp
theorem walk_core {M : Int → Int} (hM : ∀ t, 0 ≤ M t ∧ M t < 256) (has : Int → Bool) (root addr : Int) :
    (∃ e, e ≠ 0 ∧ ∀ x u f, ∃ a c, walkW has M root addr x u f = WR.no M a c e) ∨
    ∃ h : Hit has M root addr, ∀ x u f, (mayV h.pw h.pu h.px x u f = false → ∃ a c, walkW has M root addr x u f = WR.no M a c 9) ∧ (mayV h.pw h.pu h.px x u f = true → h.says x u f (walkW has M root addr x u f)) := by
  by_cases c1 : (ext addr == addr) = false
  · exact Or.inl ⟨1, by omega, fun x u f => ⟨0, 0, by unfold walkW; rw [if_pos c1]⟩⟩
  by_cases c2 : has root = false
  · exact Or.inl ⟨2, by omega, fun x u f => ⟨0, 0, by unfold walkW; rw [if_neg c1, if_pos c2]⟩⟩
  have w0 : ∀ x u f, walkW has M root addr x u f = walk0 has M root addr (codeV x u f) (addr / 4096 / 512 / 512 / 512 % 512) (addr / 4096 / 512 / 512 % 512) (addr / 4096 / 512 % 512) (addr / 4096 % 512) x u f := fun x u f => by
    unfold walkW; rw [if_neg c1, if_neg c2]
  have hq0 : p0of addr = addr / 4096 / 512 / 512 / 512 % 512 := rfl
  have hl : lastTP M root addr = if bt (entV M (entV M (entV M root (addr / 4096 / 512 / 512 / 512 % 512) / 4096 % 1048576) (addr / 4096 / 512 / 512 % 512) / 4096 % 1048576) (addr / 4096 / 512 % 512) / 128) = true then
    (entV M (entV M root (addr / 4096 / 512 / 512 / 512 % 512) / 4096 % 1048576) (addr / 4096 / 512 / 512 % 512) / 4096 % 1048576, addr / 4096 / 512 % 512)
  else (entV M (entV M (entV M root (addr / 4096 / 512 / 512 / 512 % 512) / 4096 % 1048576) (addr / 4096 / 512 / 512 % 512) / 4096 % 1048576) (addr / 4096 / 512 % 512) / 4096 % 1048576, addr / 4096 % 512) := rfl
  generalize addr / 4096 / 512 / 512 / 512 % 512 = q0 at w0 hq0 hl
  generalize addr / 4096 / 512 / 512 % 512 = q1 at w0 hl
  generalize addr / 4096 / 512 % 512 = q2 at w0 hl
  generalize addr / 4096 % 512 = q3 at w0 hl
  rcases bad_e has M root q0 4 with n0 | ⟨e, he, hb⟩
  rotate_left
  · refine Or.inl ⟨e, he, fun x u f => ?_⟩
    obtain ⟨a, c, hac⟩ := hb addr (codeV x u f)
    exact ⟨a, c, by rw [w0]; unfold walk0; rw [hac]⟩
  have th := bad_there (n0 0 0)
  have w1 : ∀ x u f, walkW has M root addr x u f = walk1 has M addr (codeV x u f) q1 q2 q3 x u f (root * 4096 + q0 * 8) (entV M root q0) := fun x u f => by
    rw [w0]; unfold walk0; rw [n0]
  clear w0
  obtain ⟨X0, hX0⟩ : ∃ X0, X0 = entV M root q0 := ⟨_, rfl⟩
  rcases bad_e has M (entV M root q0 / 4096 % 1048576) q1 3 with n1 | ⟨e, he, hb⟩
  rotate_left
  · refine Or.inl ⟨e, he, fun x u f => ?_⟩
    obtain ⟨a, c, hac⟩ := hb addr (codeV x u f)
    exact ⟨a, c, by rw [w1]; unfold walk1; rw [hac]⟩
  have w2 : ∀ x u f, walkW has M root addr x u f = walk2 has M addr (codeV x u f) q2 q3 x u f (root * 4096 + q0 * 8) (entV M root q0) (entV M root q0 / 4096 % 1048576 * 4096 + q1 * 8) (entV M (entV M root q0 / 4096 % 1048576) q1) := fun x u f => by
    rw [w1]; unfold walk1; rw [n1]
  clear w1
  obtain ⟨T1, hT1⟩ : ∃ T1, T1 = entV M root q0 / 4096 % 1048576 := ⟨_, rfl⟩
  rw [← hT1] at w2 n1 hl
  rcases bad_e has M (entV M T1 q1 / 4096 % 1048576) q2 2 with n2 | ⟨e, he, hb⟩
  rotate_left
  · refine Or.inl ⟨e, he, fun x u f => ?_⟩
    obtain ⟨a, c, hac⟩ := hb addr (codeV x u f)
    exact ⟨a, c, by rw [w2]; unfold walk2; rw [hac]⟩
  have w3 : ∀ x u f, walkW has M root addr x u f = walk3 has M addr (codeV x u f) q3 x u f (root * 4096 + q0 * 8) (entV M root q0) (T1 * 4096 + q1 * 8) (entV M T1 q1) (entV M T1 q1 / 4096 % 1048576 * 4096 + q2 * 8) (entV M (entV M T1 q1 / 4096 % 1048576) q2) := fun x u f => by
    rw [w2]; unfold walk2; rw [n2]
  clear w2
  obtain ⟨T2, hT2⟩ : ∃ T2, T2 = entV M T1 q1 / 4096 % 1048576 := ⟨_, rfl⟩
  rw [← hT2] at w3 n2 hl
  by_cases c7 : bt (entV M T2 q2 / 128) = true
  · refine Or.inr ⟨⟨entV M T2 q2 / 4096 % 1048576 + q3, ((true && bt (entV M root q0 / 2)) && bt (entV M T1 q1 / 2)) && bt (entV M T2 q2 / 2), ((true && bt (entV M root q0 / 4)) && bt (entV M T1 q1 / 4)) && bt (entV M T2 q2 / 4), ((true && !bt (entV M root q0 / 9223372036854775808)) && !bt (entV M T1 q1 / 9223372036854775808)) && !bt (entV M T2 q2 / 9223372036854775808), bt (entV M T2 q2 / 256), true, T2, q2, by rw [hl, if_pos c7]⟩, fun x u f => ⟨fun hm => ?_, fun hm => ?_⟩⟩
    · simp only at hm
      rw [w3]; unfold walk3 end3; rw [if_pos c7, if_neg (by rw [hm]; simp)]
      exact ⟨_, _, rfl⟩
    · simp only at hm
      obtain ⟨r, hr⟩ : ∃ r, walkW has M root addr x u f = r := ⟨_, rfl⟩
      rw [hr]
      rw [w3] at hr; unfold walk3 end3 at hr; rw [if_pos c7, if_pos hm] at hr
      subst hr
      have bd := ent_bd hM T2 q2
      have ob : ∀ b : Nat, b < 128 → 0 ≤ orb (entV M T2 q2) b ∧ orb (entV M T2 q2) b < 18446744073709551616 := fun b hb => orb_bd _ _ bd.1 bd.2 (by omega) (by omega)
      have k0 := lkm_mark hM (Lkm.refl M) root q0 32 (Or.inl rfl)
      have k1 := lkm_mark hM k0 T1 q1 32 (Or.inl rfl)
      have v0 := b5_mark hM root q0 T1 q1 32 (Or.inl rfl) (mark_first hM root q0)
      cases x with
      | true =>
        have k2 := lkm_mark hM k1 T2 q2 96 (Or.inr rfl)
        exact ⟨rfl, rfl, rfl, rfl, rfl, rfl, rfl, rfl, rfl, rfl, k2, ent_top _ T2 q2 _ (ob 96 (by omega)).1 (ob 96 (by omega)).2, by rw [hq0]; exact ⟨((k2 root q0).b0).symm.trans th.1, b5_mark hM root q0 T2 q2 96 (Or.inr rfl) v0, th.2⟩⟩
      | false =>
        have k2 := lkm_mark hM k1 T2 q2 32 (Or.inl rfl)
        exact ⟨rfl, rfl, rfl, rfl, rfl, rfl, rfl, rfl, rfl, rfl, k2, ent_top _ T2 q2 _ (ob 32 (by omega)).1 (ob 32 (by omega)).2, by rw [hq0]; exact ⟨((k2 root q0).b0).symm.trans th.1, b5_mark hM root q0 T2 q2 32 (Or.inl rfl) v0, th.2⟩⟩
  rcases bad_e has M (entV M T2 q2 / 4096 % 1048576) q3 1 with n3 | ⟨e, he, hb⟩
  rotate_left
  · refine Or.inl ⟨e, he, fun x u f => ?_⟩
    obtain ⟨a, c, hac⟩ := hb addr (codeV x u f)
    exact ⟨a, c, by rw [w3]; unfold walk3; rw [if_neg c7, hac]⟩
  have w4 : ∀ x u f, walkW has M root addr x u f = end4 M addr (codeV x u f) x u f (root * 4096 + q0 * 8) (entV M root q0) (T1 * 4096 + q1 * 8) (entV M T1 q1) (T2 * 4096 + q2 * 8) (entV M T2 q2) (entV M T2 q2 / 4096 % 1048576 * 4096 + q3 * 8) (entV M (entV M T2 q2 / 4096 % 1048576) q3) := fun x u f => by
    rw [w3]; unfold walk3; rw [if_neg c7, n3]
  clear w3
  obtain ⟨T3, hT3⟩ : ∃ T3, T3 = entV M T2 q2 / 4096 % 1048576 := ⟨_, rfl⟩
  rw [← hT3] at w4 n3 hl
  refine Or.inr ⟨⟨entV M T3 q3 / 4096 % 1048576, (((true && bt (entV M root q0 / 2)) && bt (entV M T1 q1 / 2)) && bt (entV M T2 q2 / 2)) && bt (entV M T3 q3 / 2), (((true && bt (entV M root q0 / 4)) && bt (entV M T1 q1 / 4)) && bt (entV M T2 q2 / 4)) && bt (entV M T3 q3 / 4), (((true && !bt (entV M root q0 / 9223372036854775808)) && !bt (entV M T1 q1 / 9223372036854775808)) && !bt (entV M T2 q2 / 9223372036854775808)) && !bt (entV M T3 q3 / 9223372036854775808), bt (entV M T3 q3 / 256), false, T3, q3, by rw [hl, if_neg c7]⟩, fun x u f => ⟨fun hm => ?_, fun hm => ?_⟩⟩
  · simp only at hm
    rw [w4]; unfold end4; rw [if_neg (by rw [hm]; simp)]
    exact ⟨_, _, rfl⟩
  · simp only at hm
    obtain ⟨r, hr⟩ : ∃ r, walkW has M root addr x u f = r := ⟨_, rfl⟩
    rw [hr]
    rw [w4] at hr; unfold end4 at hr; rw [if_pos hm] at hr
    subst hr
    have bd := ent_bd hM T3 q3
    have ob : ∀ b : Nat, b < 128 → 0 ≤ orb (entV M T3 q3) b ∧ orb (entV M T3 q3) b < 18446744073709551616 := fun b hb => orb_bd _ _ bd.1 bd.2 (by omega) (by omega)
    have k0 := lkm_mark hM (Lkm.refl M) root q0 32 (Or.inl rfl)
    have k1 := lkm_mark hM k0 T1 q1 32 (Or.inl rfl)
    have k2 := lkm_mark hM k1 T2 q2 32 (Or.inl rfl)
    have v0 := b5_mark hM root q0 T2 q2 32 (Or.inl rfl) (b5_mark hM root q0 T1 q1 32 (Or.inl rfl) (mark_first hM root q0))
    cases x with
    | true =>
      have k3 := lkm_mark hM k2 T3 q3 96 (Or.inr rfl)
      exact ⟨rfl, rfl, rfl, rfl, rfl, rfl, rfl, rfl, rfl, rfl, k3, ent_top _ T3 q3 _ (ob 96 (by omega)).1 (ob 96 (by omega)).2, by rw [hq0]; exact ⟨((k3 root q0).b0).symm.trans th.1, b5_mark hM root q0 T3 q3 96 (Or.inr rfl) v0, th.2⟩⟩
    | false =>
      have k3 := lkm_mark hM k2 T3 q3 32 (Or.inl rfl)
      exact ⟨rfl, rfl, rfl, rfl, rfl, rfl, rfl, rfl, rfl, rfl, k3, ent_top _ T3 q3 _ (ob 32 (by omega)).1 (ob 32 (by omega)).2, by rw [hq0]; exact ⟨((k3 root q0).b0).symm.trans th.1, b5_mark hM root q0 T3 q3 32 (Or.inl rfl) v0, th.2⟩⟩
/-! ### what follows -/
theorem WR.no_er (M : Int → Int) (a c e : Int) : (WR.no M a c e).er = e := rfl
theorem walk_lkm {M : Int → Int} (hM : ∀ t, 0 ≤ M t ∧ M t < 256) (has : Int → Bool) (root addr : Int) (x u f : Bool) : Lkm M (walkW has M root addr x u f).M := by
  rcases walk_core hM has root addr with ⟨e, he, hw⟩ | ⟨h, hw⟩
  · obtain ⟨a, c, q⟩ := hw x u f
    rw [q]; exact Lkm.refl M
  · cases hm : mayV h.pw h.pu h.px x u f with
    | false => obtain ⟨a, c, q⟩ := (hw x u f).1 hm; rw [q]; exact Lkm.refl M
    | true => exact ((hw x u f).2 hm).m
theorem walk_zero {M : Int → Int} (hM : ∀ t, 0 ≤ M t ∧ M t < 256) (has : Int → Bool) (root addr : Int) (x u f : Bool) (hn : (walkW has M root addr x u f).er ≠ 0) :
    (walkW has M root addr x u f).fr = 0 ∧ (walkW has M root addr x u f).pw = false ∧ (walkW has M root addr x u f).pu = false ∧ (walkW has M root addr x u f).px = false ∧ (walkW has M root addr x u f).g = false ∧ (walkW has M root addr x u f).l = false ∧ (walkW has M root addr x u f).d = false ∧ (walkW has M root addr x u f).M = M := by
  rcases walk_core hM has root addr with ⟨e, he, hw⟩ | ⟨h, hw⟩
  · obtain ⟨a, c, q⟩ := hw x u f
    rw [q]; exact ⟨rfl, rfl, rfl, rfl, rfl, rfl, rfl, rfl⟩
  · cases hm : mayV h.pw h.pu h.px x u f with
    | false => obtain ⟨a, c, q⟩ := (hw x u f).1 hm; rw [q]; exact ⟨rfl, rfl, rfl, rfl, rfl, rfl, rfl, rfl⟩
    | true => exact absurd ((hw x u f).2 hm).er hn
/-- whether it was written to, of a walk that found something -/
theorem walk_d {M : Int → Int} (hM : ∀ t, 0 ≤ M t ∧ M t < 256) (has : Int → Bool) (root addr : Int) (x u f : Bool) (he : (walkW has M root addr x u f).er = 0) :
    (walkW has M root addr x u f).d = (bt (entV M (lastTP M root addr).1 (lastTP M root addr).2 / 64) || x) ∧
    entV (walkW has M root addr x u f).M (lastTP M root addr).1 (lastTP M root addr).2 = orb (entV M (lastTP M root addr).1 (lastTP M root addr).2) (if x then 96 else 32) := by
  rcases walk_core hM has root addr with ⟨e, hne, hw⟩ | ⟨h, hw⟩
  · obtain ⟨a, c, q⟩ := hw x u f
    rw [q] at he; exact absurd he hne
  · cases hm : mayV h.pw h.pu h.px x u f with
    | false => obtain ⟨a, c, q⟩ := (hw x u f).1 hm; rw [q] at he; exact absurd he (by show (9 : Int) ≠ 0; omega)
    | true =>
      have k := (hw x u f).2 hm
      rw [← h.tp]
      exact ⟨k.d, k.e⟩
/-- the next walk to the same page with the same access finds the same -/
theorem again {M : Int → Int} (hM : ∀ t, 0 ≤ M t ∧ M t < 256) (root : Int) {a b : Int} (x u f : Bool) (hM' : ∀ t, 0 ≤ (walkW Has8 M root a x u f).M t ∧ (walkW Has8 M root a x u f).M t < 256) (hp : a / 4096 = b / 4096) (a0 : 0 ≤ a) (a1 : a < 18446744073709551616) (b0 : 0 ≤ b) (b1 : b < 18446744073709551616) :
    Sim a b (walkW Has8 M root a x u f) (walkW Has8 (walkW Has8 M root a x u f).M root b x u f) ∧ (walkW Has8 (walkW Has8 M root a x u f).M root b x u f).d = (walkW Has8 M root a x u f).d := by
  have lk := walk_lkm hM Has8 root a x u f
  have s := sim_walk lk Has8 root hp a0 a1 b0 b1 x u f
  refine ⟨s, ?_⟩
  by_cases he : (walkW Has8 M root a x u f).er = 0
  · have d1 := walk_d hM Has8 root a x u f he
    have d2 := walk_d hM' Has8 root b x u f (s.er.trans he)
    rw [d2.1, d1.1, last_lk lk root hp, d1.2]
    have bd := ent_bd hM (lastTP M root a).1 (lastTP M root a).2
    cases x with
    | true => simp
    | false => simp [orb_d32 _ bd.1 bd.2]
  · rw [(walk_zero hM' Has8 root b x u f (by rw [s.er]; exact he)).2.2.2.2.2.2.1, (walk_zero hM Has8 root a x u f he).2.2.2.2.2.2.1]
end Go.Proofs.YtkbkikbcpllknabDoor
