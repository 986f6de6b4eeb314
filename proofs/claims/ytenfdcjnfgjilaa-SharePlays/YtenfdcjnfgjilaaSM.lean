/- Grants: what calls of others leave; what a round of calls leaves. -/
import Derived.Test.YtenfdcjnfgjilaaS9
import Derived.Test.YtenfdcjnfgjilaaSN
namespace Go.Proofs.Ytenfdcjnfgjilaa
open Go.ChangeShapes Go.WideShapes Go.ChangeAt Go.RowKit Go.Maps
set_option linter.unusedSimpArgs false
set_option linter.unusedVariables false
set_option maxRecDepth 8000

theorem off_where {T : Nat → Gr} {f p d : Int} (h : offE T f p d = 0) : ∃ k : Nat, f = k ∧ k < 16 ∧ offB f p d = false ∧ freeF T (f.toNat * 16) 16 < f.toNat * 16 + 16 := by
  unfold offE at h
  by_cases c : offB f p d = true
  · rw [if_pos c] at h; omega
  · rw [if_neg c] at h
    by_cases e : freeF T (f.toNat * 16) 16 < f.toNat * 16 + 16
    · have c' : offB f p d = false := by simpa using c
      have z1 : isProc f = true := by
        unfold offB at c'
        cases q : isProc f <;> simp [q] at c' ⊢
      obtain ⟨k, rfl, hk⟩ := proc_in z1
      exact ⟨k, rfl, hk, c', e⟩
    · rw [if_neg e] at h; omega
theorem acc_where {T : Nat → Gr} {i o a : Int} (h : accE T i o a = 0) : (getG T i).is = true := by
  unfold accE at h
  by_cases c : (getG T i).is = false ∨ (getG T i).dst ≠ o
  · rw [if_pos c] at h; omega
  · cases e : (getG T i).is
    · exact absurd (Or.inl e) c
    · rfl
theorem lea_where {T : Nat → Gr} {i o : Int} (h : leaE T i o = 0) : (getG T i).is = true := by
  unfold leaE at h
  by_cases c : (getG T i).is = false ∨ (getG T i).dst ≠ o ∨ (getG T i).tk = false
  · rw [if_pos c] at h; omega
  · cases e : (getG T i).is
    · exact absurd (Or.inl e) c
    · rfl
theorem rev_where {T : Nat → Gr} {i o : Int} (h : revE T i o = 0) : (getG T i).is = true := by
  unfold revE at h
  by_cases c : (getG T i).is = false ∨ (getG T i).fr ≠ o
  · rw [if_pos c] at h; omega
  · cases e : (getG T i).is
    · exact absurd (Or.inl e) c
    · rfl
theorem put_far {T : Nat → Gr} {i : Int} {p : Nat} {x : Gr} (h : (getG T i).is = true) (hi : i.tdiv 16 ≠ p) : putT T i.toNat x (p * 16) = T (p * 16) := by
  obtain ⟨k, rfl, hk, _⟩ := is_in h
  rw [Int.toNat_natCast, put_other _ _ _ _ (fun e => hi (by rw [← e]; rw [Int.tdiv_eq_ediv_of_nonneg (by omega)]; omega))]
theorem does_keep {T : Nat → Gr} {p : Nat} {pg d : Int} (hp : p < 16) (h : T (p * 16) = ⟨p, pg, d, true, false, 0⟩) (K A B P : Int) (X : Bool) (h1 : A ≠ p) (h2 : A ≠ d) (h3 : A.tdiv 16 ≠ p) : doesT T K A B P X (p * 16) = ⟨p, pg, d, true, false, 0⟩ := by
  rw [← h]
  unfold doesT
  by_cases k1 : K = 1
  · rw [if_pos k1]
    unfold offT
    by_cases c : offE T A P B = 0
    · rw [if_pos c]
      obtain ⟨k, rfl, hk, _, hf⟩ := off_where c
      rw [Int.toNat_natCast] at hf ⊢
      have := free_le T 16 (k * 16)
      exact put_other _ _ _ _ (fun e => h1 (by omega))
    · rw [if_neg c]
  rw [if_neg k1]
  by_cases k2 : K = 2
  · rw [if_pos k2]
    unfold accT
    by_cases c : accE T A B P = 0
    · rw [if_pos c]; exact put_far (acc_where c) h3
    · rw [if_neg c]
  rw [if_neg k2]
  by_cases k3 : K = 3
  · rw [if_pos k3]
    unfold leaT
    by_cases c : leaE T A B = 0
    · rw [if_pos c]; exact put_far (lea_where c) h3
    · rw [if_neg c]
  rw [if_neg k3]
  by_cases k4 : K = 4
  · rw [if_pos k4]
    unfold revT
    by_cases c : revE T A B = 0
    · rw [if_pos c]; exact put_far (rev_where c) h3
    · rw [if_neg c]
  rw [if_neg k4]
  by_cases k5 : K = 5
  · rw [if_pos k5, clr_at, if_neg]
    intro m
    have := ((mem_of T A _ 256).1 m).2
    rw [h] at this
    unfold ofP at this
    simp only [Bool.and_eq_true, Bool.or_eq_true, beq_iff_eq] at this
    rcases this.2 with e | e
    · exact h1 e.symm
    · exact h2 e.symm
  · rw [if_neg k5]
theorem off_first (p : Nat) (pg d : Int) (hp : p < 16) (hB : offB p pg d = false) : offE zT p pg d = 0 ∧ offI zT p pg d = 16 * (p : Int) ∧ offT zT p pg d true = putT zT (p * 16) ⟨p, pg, d, true, false, 0⟩ := by
  have hF : freeF zT (p * 16) 16 = p * 16 := free_uniq _ _ _ _ (by omega) (by omega) (fun i h1 h2 => by omega) (fun _ => rfl)
  have e1 : offE zT p pg d = 0 := by
    unfold offE
    rw [hB, if_neg (by decide), Int.toNat_natCast, hF, if_pos (by omega)]
  refine ⟨e1, ?_, ?_⟩
  · unfold offI; rw [if_pos e1, Int.toNat_natCast, hF]; omega
  · unfold offT; rw [if_pos e1, Int.toNat_natCast, hF]
theorem of_pos (T : Nat → Gr) (p : Int) (k : Nat) (hk : k < 256) (h : ofP (T k) p = true) : 1 ≤ (ofL T p 256).length := by
  have := (mem_of T p k 256).2 ⟨hk, h⟩
  cases c : ofL T p 256 with
  | nil => rw [c] at this; cases this
  | cons a l => simp
/-- who isn't there is nothing -/
def Zr (T : Nat → Gr) : Prop := ∀ k, (T k).is = false → T k = Gr.zero
theorem zr_zero : Zr zT := fun _ _ => rfl
theorem Zr.put {T : Nat → Gr} (h : Zr T) (i : Nat) (x : Gr) (hx : x.is = true ∨ x = Gr.zero) : Zr (putT T i x) := fun k hk => by
  by_cases c : k = i
  · rw [c, put_same] at hk ⊢
    rcases hx with e | e
    · rw [e] at hk; cases hk
    · exact e
  · rw [put_other _ _ _ _ c] at hk ⊢; exact h k hk
theorem getG_nat {T : Nat → Gr} {i : Int} (h : (getG T i).is = true) : (T i.toNat).is = true := by
  obtain ⟨k, rfl, hk, e⟩ := is_in h
  rw [e] at h; rwa [Int.toNat_natCast]
theorem Zr.does {T : Nat → Gr} (h : Zr T) (K A B P : Int) (X : Bool) : Zr (doesT T K A B P X) := by
  unfold doesT
  by_cases k1 : K = 1
  · rw [if_pos k1]
    unfold offT
    by_cases c : offE T A P B = 0
    · rw [if_pos c]
      obtain ⟨k, rfl, hk, hB, hf⟩ := off_where c
      refine h.put _ _ (Or.inl ?_)
      unfold offB at hB
      have : ((k : Int) == B) = false := by cases q : ((k : Int) == B) <;> simp [q] at hB ⊢
      unfold Gr.is; simp only; rw [this]; rfl
    · rw [if_neg c]; exact h
  rw [if_neg k1]
  by_cases k2 : K = 2
  · rw [if_pos k2]
    unfold accT
    by_cases c : accE T A B P = 0
    · rw [if_pos c]; exact h.put _ _ (Or.inl (getG_nat (acc_where c)))
    · rw [if_neg c]; exact h
  rw [if_neg k2]
  by_cases k3 : K = 3
  · rw [if_pos k3]
    unfold leaT
    by_cases c : leaE T A B = 0
    · rw [if_pos c]; exact h.put _ _ (Or.inl (getG_nat (lea_where c)))
    · rw [if_neg c]; exact h
  rw [if_neg k3]
  by_cases k4 : K = 4
  · rw [if_pos k4]
    unfold revT
    by_cases c : revE T A B = 0
    · rw [if_pos c]; exact h.put _ _ (Or.inr rfl)
    · rw [if_neg c]; exact h
  rw [if_neg k4]
  by_cases k5 : K = 5
  · rw [if_pos k5]
    intro k hk
    rw [clr_at] at hk ⊢
    by_cases c : k ∈ ofL T A 256
    · rw [if_pos c]
    · rw [if_neg c] at hk ⊢; exact h k hk
  · rw [if_neg k5]; exact h
theorem lent_put (T : Nat → Gr) (f p : Int) (i : Nat) (x : Gr) (h0 : lentP (T i) f p = false) (h1 : lentP x f p = true) : ∀ m, lentN (putT T i x) f p m = lentN T f p m + (if i < m then 1 else 0)
  | 0 => by simp [lentN]
  | m + 1 => by
    have ih := lent_put T f p i x h0 h1 m
    by_cases c : m = i
    · subst c
      rw [lent_yes _ _ _ _ (by rw [put_same]; exact h1), lent_no _ _ _ _ h0, ih, if_neg (by omega), if_pos (by omega)]
    · have e : putT T i x m = T m := put_other _ _ _ _ c
      have e2 : (if i < m + 1 then (1 : Nat) else 0) = (if i < m then 1 else 0) := by
        by_cases d : i < m
        · rw [if_pos d, if_pos (by omega)]
        · rw [if_neg d, if_neg (by omega)]
      rw [lentN, lentN, ih, e, e2]
      omega
/-- a grant that is offered at a free number, taken, left, taken and revoked -/
theorem round_of {T : Nat → Gr} (hz : Zr T) (p : Nat) (pg d a : Int) (hp : p < 16) (hB : offB p pg d = false) (ha : isPage a = true) (h0 : offE T p pg d = 0) :
    ∃ m : Nat, m < 256 ∧ offI T p pg d = m ∧ offT T p pg d true = putT T m ⟨p, pg, d, true, false, 0⟩
      ∧ accE (putT T m ⟨p, pg, d, true, false, 0⟩) m d a = 0 ∧ accT (putT T m ⟨p, pg, d, true, false, 0⟩) m d a = putT T m ⟨p, pg, d, true, true, a⟩
      ∧ lentN (putT T m ⟨p, pg, d, true, true, a⟩) p pg 256 = lentN T p pg 256 + 1
      ∧ leaE (putT T m ⟨p, pg, d, true, true, a⟩) m d = 0 ∧ leaG (putT T m ⟨p, pg, d, true, true, a⟩) m d = ⟨p, pg, d, true, true, a⟩ ∧ leaT (putT T m ⟨p, pg, d, true, true, a⟩) m d = putT T m ⟨p, pg, d, true, false, 0⟩
      ∧ revE (putT T m ⟨p, pg, d, true, true, a⟩) m p = 0 ∧ revG (putT T m ⟨p, pg, d, true, true, a⟩) m p = ⟨p, pg, d, true, true, a⟩ ∧ revT (putT T m ⟨p, pg, d, true, true, a⟩) m p = T
      ∧ getG T m = Gr.zero := by
  obtain ⟨k, hk, hk16, _, hf⟩ := off_where h0
  obtain rfl : p = k := by omega
  rw [Int.toNat_natCast] at hf
  have hle := free_le T 16 (p * 16)
  have hno := free_no T 16 (p * 16) hf
  obtain ⟨m, hm⟩ : ∃ m, freeF T (p * 16) 16 = m := ⟨_, rfl⟩
  rw [hm] at hle hno hf
  have hT := hz m hno
  have hne : ((p : Int) == d) = false := by unfold offB at hB; cases q : ((p : Int) == d) <;> simp [q] at hB ⊢
  have gp : ∀ x : Gr, getG (putT T m x) m = x := fun x => by unfold getG; rw [if_pos (by omega), Int.toNat_natCast, put_same]
  have isx : ∀ b z, Gr.is ⟨p, pg, d, true, b, z⟩ = true := fun b z => by unfold Gr.is; simp only; rw [hne]; rfl
  have A := acc0 (T := putT T m ⟨p, pg, d, true, false, 0⟩) (i := m) (o := d) (a := a) (by rw [gp]; exact isx _ _) (by rw [gp]) (by rw [gp]) ha
  have Le := lea0 (T := putT T m ⟨p, pg, d, true, true, a⟩) (i := m) (o := d) (by rw [gp]; exact isx _ _) (by rw [gp]) (by rw [gp])
  have Re := rev0 (T := putT T m ⟨p, pg, d, true, true, a⟩) (i := m) (o := p) (by rw [gp]; exact isx _ _) (by rw [gp])
  refine ⟨m, by omega, ?_, ?_, A.1, ?_, ?_, Le.1, ?_, ?_, Re.1, ?_, ?_, ?_⟩
  · unfold offI; rw [if_pos h0, Int.toNat_natCast, hm]
  · unfold offT; rw [if_pos h0, Int.toNat_natCast, hm]
  · rw [A.2, Int.toNat_natCast, put_same, put_put]; rfl
  · rw [lent_put T p pg m ⟨p, pg, d, true, true, a⟩ (by rw [hT]; rfl) (by unfold lentP; simp) 256, if_pos (by omega)]
  · rw [Le.2.1, gp]
  · rw [Le.2.2, Int.toNat_natCast, put_same, put_put]; rfl
  · rw [Re.2.1, gp]
  · rw [Re.2.2, Int.toNat_natCast, put_put]
    funext j
    unfold putT
    by_cases c : j = m
    · rw [if_pos c, c, hT]
    · rw [if_neg c]
  · unfold getG; rw [if_pos (by omega), Int.toNat_natCast, hT]
theorem off_four {T : Nat → Gr} {f p d : Int} (hB : offB f p d = false) (h : offE T f p d ≠ 0) (x : Bool) : offE T f p d = 4 ∧ offI T f p d = 0 ∧ offT T f p d x = T := by
  have e : offE T f p d = 4 := by
    unfold offE at h ⊢
    rw [hB, if_neg (by decide)] at h ⊢
    by_cases c : freeF T (f.toNat * 16) 16 < f.toNat * 16 + 16
    · rw [if_pos c] at h; exact absurd rfl h
    · rw [if_neg c]
  exact ⟨e, by unfold offI; rw [e]; rfl, by unfold offT; rw [e]; rfl⟩
end Go.Proofs.Ytenfdcjnfgjilaa
