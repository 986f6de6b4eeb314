/- Regions: a change as a parameter; changes one behind the other. -/
import Derived.Test.YtngaodfajihmmaaG13
import Derived.Test.YtngaodfajihmmaaGP
namespace Go.Proofs.Ytngaodfajihmmaa
open Go.ChangeShapes Go.WideShapes Go.ChangeAt Go.RowKit Go.Maps
set_option linter.unusedSimpArgs false
set_option linter.unusedVariables false

theorem open_act {H : Type} {enc : TypeId × Value → H} {W : World} {r : Reach} {b0 base : Nat} {sp : Nat → Bool} {held : Bool} {v : Value} {x : DataW H} {ps : List MemPlace}
    (hv : Value.okWide Try.prog W r b0 57 v) (h : DataW.Trod enc Try.prog W base sp held 57 v x ps) :
    ∃ a : Ac, v = a.val ∧ (-9223372036854775808 ≤ a.fr ∧ a.fr ≤ 9223372036854775807) ∧ (-9223372036854775808 ≤ a.til ∧ a.til ≤ 9223372036854775807) := by
  obtain ⟨cs, rfl, hsz⟩ := okWide_struct Try.underlying57 hv
  obtain ⟨fuel, hf⟩ := h
  have hf2 : DataW.trod enc Try.prog W base sp held fuel 57 cs.toList = some (x, ps) := hf
  obtain ⟨a, ha, b1, b2⟩ := act_cells hf2 (by rw [Array.length_toList]; exact hsz.trans cellsA)
  refine ⟨a, ?_, b1, b2⟩
  have : cs = a.enc.toArray := by rw [← ha]
  rw [this]; rfl
/-- what Protect leaves -/
theorem prot_can {L : List Rg} (g : goodB L = true) {f t : Int} (hr : rightB f t = true) (a b c : Bool) :
    Can 0 (chg (fun r => r.may a b c) f t L) ∧ endL 0 (chg (fun r => r.may a b c) f t L) ≤ 34359738368 ∧ ∀ x, atR (chg (fun r => r.may a b c) f t L) x = if f ≤ x ∧ x < t then (atR L x).bind (fun v => some (a, b, c, v.2.2.2)) else atR L x := by
  have hr' := right_is hr
  obtain ⟨c1, c2, _⟩ := good_can g
  obtain ⟨k1, k2, k3⟩ := chg_can (by omega) (sem_prot a b c f t) c1
  exact ⟨k1, by omega, k3⟩
theorem check_good {L : List Rg} (g : goodB L = true) {f t : Int} (hr : rightB f t = true) : checkN L f t = 0 := by
  unfold checkN; simp [g, hr]
/-- protected twice -/
theorem twice {L : List Rg} {f t : Int} (h : protN L f t = 0) (a b c a' b' c' : Bool) (hl : (chg (fun r => r.may a b c) f t L).length ≤ 64) :
    protN (chg (fun r => r.may a b c) f t L) f t = 0 ∧ chg (fun r => r.may a' b' c') f t (chg (fun r => r.may a b c) f t L) = chg (fun r => r.may a' b' c') f t L := by
  obtain ⟨hr, g⟩ := check_zero (protN_zero h)
  obtain ⟨k1, k2, k3⟩ := prot_can g hr a b c
  have gm := can_good k1 k2 hl
  obtain ⟨j1, _, j3⟩ := prot_can gm hr a' b' c'
  obtain ⟨i1, _, i3⟩ := prot_can g hr a' b' c'
  constructor
  · unfold protN
    rw [if_pos (check_good gm hr), cnt_prot g f t a b c hr f t, if_neg (protN_full h)]
  · refine can_eq _ _ 0 0 j1 i1 (fun x => ?_)
    rw [j3, i3, k3]
    by_cases q : f ≤ x ∧ x < t
    · rw [if_pos q, if_pos q, if_pos q]
      cases atR L x <;> rfl
    · rw [if_neg q, if_neg q, if_neg q]
def Ac.one (a : Ac) : Ac := ⟨1, a.fr, a.til, a.w, a.u, a.x, a.kd⟩
/-- in whatever order -/
theorem order {L : List Rg} (g : goodB L = true) {a b : Ac} (ha : a.how = 1) (hb : b.how = 1) (e : actE L a = 0) (f : actE (actL L a) b = 0) (e' : actE L b = 0) (f' : actE (actL L b) a = 0) : actL (actL L a) b = actL (actL L b) a := by
  have ga := act_good g a
  have gb := act_good g b
  refine can_eq _ _ 0 0 (good_can (act_good ga b)).1 (good_can (act_good gb a)).1 (fun x => ?_)
  obtain ⟨p1, p2⟩ := act_add g e ha x
  obtain ⟨q1, q2⟩ := act_add ga f hb x
  obtain ⟨r1, r2⟩ := act_add g e' hb x
  obtain ⟨s1, s2⟩ := act_add gb f' ha x
  rw [q1, s1, p1, r1]
  by_cases ia : a.fr ≤ x ∧ x < a.til
  · by_cases ib : b.fr ≤ x ∧ x < b.til
    · have := q2 ib
      rw [p1, if_pos ia] at this; cases this
    · rw [if_neg ib, if_pos ia, if_pos ia]
  · by_cases ib : b.fr ≤ x ∧ x < b.til
    · simp only [if_pos ib, if_neg ia]
    · simp only [if_neg ib, if_neg ia]
theorem pre_all (M L : List Rg) : (preL M L).length ≤ M.length + L.length := by
  have := pre_len M L L.length (Nat.le_refl _)
  rwa [List.take_length] at this
theorem add_len (L : List Rg) (r : Rg) : (addL L r).length ≤ L.length + 1 := by
  unfold addL
  have h1 := pre_all (withL (preL [] (L.take (aheadN L r.fr))) r) (L.drop (aheadN L r.fr))
  have h2 := withL_len (preL [] (L.take (aheadN L r.fr))) r
  have h3 := pre_all [] (L.take (aheadN L r.fr))
  rw [List.length_take, List.length_nil] at h3
  rw [List.length_drop] at h1
  omega
theorem act_len {L : List Rg} {a : Ac} (ha : a.how = 1) (e : actE L a = 0) : (actL L a).length ≤ L.length + 1 := by
  rcases (act_cases e).2.2 with ⟨_, _, _, q⟩ | ⟨q, _⟩ | ⟨q, _⟩
  · rw [q]; exact add_len L a.rg
  · omega
  · omega
/-- added and cut again -/
theorem back {L : List Rg} (g : goodB L = true) {a : Ac} (ha : a.how = 1) (e : actE L a = 0) :
    errA (checkN (actL L a) a.fr a.til) (chg (fun _ => Rg.zero) a.fr a.til (actL L a)) = 0 ∧ outL (checkN (actL L a) a.fr a.til) (chg (fun _ => Rg.zero) a.fr a.til (actL L a)) = L ∧ cntR a.fr a.til (actL L a) = a.til - a.fr := by
  obtain ⟨hr, _, hc⟩ := act_cases e
  have gm := act_good g a
  have ck := check_good gm hr
  have hr' := right_is hr
  obtain ⟨k1, k2, k3⟩ := chg_can (by omega) (sem_cut a.fr a.til) (good_can gm).1
  have eq : chg (fun _ => Rg.zero) a.fr a.til (actL L a) = L := by
    refine can_eq _ _ 0 0 k1 (good_can g).1 (fun x => ?_)
    obtain ⟨p1, p2⟩ := act_add g e ha x
    rw [k3, p1]
    by_cases ia : a.fr ≤ x ∧ x < a.til
    · rw [if_pos ia, if_pos ia, p2 ia]; rfl
    · rw [if_neg ia, if_neg ia]
  have e0 : errA 0 L = 0 := by unfold errA; rw [if_pos rfl, if_pos (good_can g).2.2]
  refine ⟨by rw [ck, eq]; exact e0, by rw [ck, eq]; unfold outL; rw [if_pos e0], ?_⟩
  rcases hc with ⟨_, z, _, q⟩ | ⟨q, _⟩ | ⟨q, _⟩
  · rw [q, cnt_add (good_can g).1 a.rg hr'.1 hr'.2.1 z a.fr a.til]
    have := cnt_nn a.fr a.til L
    have z0 : cntR a.fr a.til L = 0 := by omega
    rw [z0]
    unfold Rg.len Ac.rg
    simp
    omega
  · omega
  · omega
end Go.Proofs.Ytngaodfajihmmaa
