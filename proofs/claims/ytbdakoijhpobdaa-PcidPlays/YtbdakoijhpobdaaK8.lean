/- Tags: the document's Get and Drop beside the program's. -/
import Derived.Test.YtbdakoijhpobdaaK7
import Derived.Maps.AppendAt
import Derived.Laws.OwnMore
import Derived.OwnWalk
namespace Go.Proofs.Ytbdakoijhpobdaa
open Go.ChangeShapes Go.WideShapes Go.ChangeAt Go.RowKit Go.Maps
set_option linter.unusedSimpArgs false
set_option linter.unusedVariables false

theorem findV_nonneg (s : Int) : ∀ (B : List Gv) (i : Nat), 0 ≤ findV s B i
  | [], _ => Int.le_refl _
  | b :: r, i => by
    unfold findV
    by_cases c : fits s b = true
    · rw [if_pos c]; omega
    · rw [if_neg c]; exact findV_nonneg s r (i + 1)
theorem rget_cor {S : Tg} {B : List Gv} {m g : Int} (h : Cor S B m g) (hB : B.length ≤ 100) (hg : g < 4611686018427387904) (base : Nat) (p : Option Addr) (c : Nat) (s : Int) (w : World) (I : IsGv w base p B) (hb : base ≤ w.heap.size) :
    Calls Try.prog 13 #[.agg #[.int .i64 m, .int .i64 g, .slice p B.length c], .int .i64 s] w fun e w' => ∃ p' c' B' g', e = .returned (.tuple #[.agg #[.int .i64 m, .int .i64 g', .slice p' B'.length c'], .int .i64 (getV S s), .bool (getB S s)]) ∧ IsGv w' base p' B' ∧ Cor (getS S s) B' m g' ∧ B'.length ≤ B.length + 1 ∧ g' ≤ g + 1 ∧ Below w.heap.size w w' := by
  obtain ⟨c1, c2, c3⟩ := cor_get h s
  have f0 := findV_nonneg s B 0
  have g0 : 0 ≤ g := by rw [← h.gen]; exact h.good.ok.g0
  by_cases f : findV s B 0 = 0
  · by_cases o : (B.length : Int) < m
    · obtain ⟨e1, e2, e3⟩ := c2 f o
      rw [e1, e2]
      cases p with
      | some a =>
        refine (rget_some base m g a c B hB s f o w I).mono ?_
        rintro e w' ⟨p', c', rfl, I', b'⟩
        exact ⟨p', c', _, g, rfl, I'.weak hb, e3, by rw [List.length_append]; simp, by omega, b'⟩
      | none =>
        have nb : B = [] := by
          cases B with
          | nil => rfl
          | cons x r => obtain ⟨q, e, _⟩ := I 0 (by simp); cases e
        subst nb
        refine (rget_none m g c s (by rw [← h.most]; exact h.good.ok.m0) w).mono ?_
        rintro e w' ⟨p', c', rfl, I', b'⟩
        exact ⟨p', c', [Gv.mk s true], g, rfl, I'.weak hb, e3, by simp, by omega, b'⟩
    · obtain ⟨e1, e2, e3⟩ := c3 f (by omega)
      rw [e1, e2]
      refine (rget_over base m g p c B hB s f (by omega) g0 hg w I).mono ?_
      rintro e w' ⟨p', c', rfl, I', b'⟩
      exact ⟨p', c', [Gv.mk s true], g + 1, rfl, I'.weak hb, e3, by simp, by omega, b'⟩
  · obtain ⟨e1, e2, e3⟩ := c1 (by omega)
    rw [e1, e2, e3]
    refine (rget_has base m g p c B hB s (by omega) w I).mono ?_
    rintro e w' ⟨rfl, b'⟩
    exact ⟨p, c, B, g, rfl, I.below b', h, by omega, by omega, b'⟩
theorem rdrop_cor {S : Tg} {B : List Gv} {m g : Int} (h : Cor S B m g) (hB : B.length ≤ 100) (base : Nat) (p : Option Addr) (c : Nat) (s : Int) (w : World) (I : IsGv w base p B) (hb : base ≤ w.heap.size) :
    Calls Try.prog 11 #[.agg #[.int .i64 m, .int .i64 g, .slice p B.length c], .int .i64 s] w fun e w' => ∃ p' c' B', e = .returned (.agg #[.int .i64 m, .int .i64 g, .slice p' B'.length c']) ∧ IsGv w' base p' B' ∧ Cor (dropS S s) B' m g ∧ B'.length = B.length ∧ Below w.heap.size w w' := by
  refine (rdrop_any base m g p c B hB s w I).mono ?_
  rintro e w' ⟨p', c', rfl, I', b'⟩
  exact ⟨p', c', _, rfl, I'.weak hb, cor_drop h s, dropV_length B s, b'⟩
end Go.Proofs.Ytbdakoijhpobdaa
