/- Regions: how many pages there are behind a change. -/
import Derived.Test.YtngaodfajihmmaaGN
import Derived.Test.YtngaodfajihmmaaG11
namespace Go.Proofs.Ytngaodfajihmmaa
set_option linter.unusedSimpArgs false
set_option linter.unusedVariables false

theorem cnt_ext (p q : Int) : ∀ (L : List Rg) (e t : Int), Can e L → 0 < L.length → endL e L ≤ t → cntR p q (extL L t) = cntR p q L + (if max (endL e L) p < min t q then min t q - max (endL e L) p else 0)
  | [], _, _, _, h, _ => absurd h (Nat.lt_irrefl _)
  | [a], e, t, h, _, ht => by
    have ht' : a.to ≤ t := ht
    have h1 := h.1.2
    show (a.upto t).len p q + 0 = (a.len p q + 0) + (if max a.to p < min t q then min t q - max a.to p else 0)
    unfold Rg.len Rg.upto
    simp only
    split <;> split <;> split <;> omega
  | a :: b :: l, e, t, h, _, ht => by
    have i := cnt_ext p q (b :: l) a.to t h.2.1 (by simp) ht
    show a.len p q + cntR p q (extL (b :: l) t) = (a.len p q + cntR p q (b :: l)) + _
    rw [i]
    show _ = _ + (if max (endL a.to (b :: l)) p < min t q then min t q - max (endL a.to (b :: l)) p else 0)
    omega
theorem cnt_with (p q : Int) (L : List Rg) (e : Int) (r : Rg) (h : Can e L) (hr : r.fr < r.to → endL e L ≤ r.fr) : cntR p q (withL L r) = cntR p q L + r.len p q := by
  unfold withL
  by_cases c : r.to ≤ r.fr
  · rw [if_pos c]
    unfold Rg.len
    rw [if_neg (by omega)]; omega
  · have hr' := hr (by omega)
    rw [if_neg c]
    by_cases d : 0 < L.length ∧ (lastR L).joins r = true
    · obtain ⟨d1, d2⟩ := d
      have j := joins_is d2
      have el := end_last L e d1
      rw [if_pos ⟨d1, d2⟩, set_ext L r.to d1, cnt_ext p q L e r.to h d1 (by omega), el, j.1]; rfl
    · rw [if_neg d, cntR_append]
      show _ + (r.len p q + 0) = _
      omega
theorem cnt_pre (p q : Int) : ∀ (L M : List Rg) (e : Int), Can e M → Can (endL e M) L → cntR p q (preL M L) = cntR p q M + cntR p q L
  | [], M, e, _, _ => by show cntR p q M = cntR p q M + 0; omega
  | r :: l, M, e, h, hl => by
    have h1 := hl.1
    obtain ⟨a1, a2, a3⟩ := with_can M e r h (fun _ => h1.1)
    rw [if_pos h1.2] at a2
    have b := cnt_pre p q l (withL M r) e a1 (by rw [a2]; exact hl.2.1)
    show cntR p q (preL (withL M r) l) = _
    rw [b, cnt_with p q M e r h (fun _ => h1.1)]
    show _ = _ + (r.len p q + cntR p q l)
    omega
theorem part_cnt {G : Rg → Rg} {gg : Att → Option Att} {f t : Int} (hft : f ≤ t) (hG : SemG G gg f t) (p q : Int) (M : List Rg) (e : Int) (r : Rg) (h : Can e M) (h1 : endL e M ≤ r.fr) (h2 : r.fr < r.to) : cntR p q (part G f t M r) = cntR p q M + ((r.upto (min r.to f)).len p q + (G (r.mid f t)).len p q + (r.from (max r.fr t)).len p q) := by
  obtain ⟨g1, g2⟩ := hG r
  obtain ⟨a1, a2, a3⟩ := with_can M e (r.upto (min r.to f)) h (fun _ => h1)
  have a2' : endL e (withL M (r.upto (min r.to f))) = if r.fr < min r.to f then min r.to f else endL e M := a2
  have ea : endL e (withL M (r.upto (min r.to f))) ≤ max r.fr f ∧ endL e (withL M (r.upto (min r.to f))) ≤ r.to := by rw [a2']; split <;> omega
  obtain ⟨b1, b2, b3⟩ := with_can (withL M (r.upto (min r.to f))) e (G (r.mid f t)) a1 (fun q => by have := g1 q; omega)
  have eb : endL e (withL (withL M (r.upto (min r.to f))) (G (r.mid f t))) ≤ max r.fr t := by
    rw [b2]
    by_cases q : (G (r.mid f t)).fr < (G (r.mid f t)).to
    · have := g1 q; rw [if_pos q]; omega
    · rw [if_neg q]; omega
  unfold part
  rw [cnt_with p q _ e _ b1 (fun _ => eb), cnt_with p q _ e _ a1 (fun k => by have := g1 k; omega), cnt_with p q M e (r.upto (min r.to f)) h (fun _ => h1)]
  omega
theorem chg_cnt {G : Rg → Rg} {gg : Att → Option Att} {f t : Int} (hft : f ≤ t) (hG : SemG G gg f t) (p q : Int) (F : Rg → Int) (hF : ∀ r : Rg, r.fr < r.to → 0 ≤ r.fr → r.to ≤ 34359738368 → (r.upto (min r.to f)).len p q + (G (r.mid f t)).len p q + (r.from (max r.fr t)).len p q = F r) : ∀ (L M : List Rg) (e e' : Int), Can e M → Can e' L → endL e M ≤ e' → 0 ≤ e' → endL e' L ≤ 34359738368 → cntR p q (L.foldl (part G f t) M) = cntR p q M + (L.map F).sum
  | [], M, _, _, _, _, _, _, _ => by show cntR p q M = _ + 0; omega
  | r :: l, M, e, e', h, hl, he, h0, hT => by
    obtain ⟨l1, l2, l3⟩ := hl
    obtain ⟨a1, a2, a3, _⟩ := part_can hft hG M e r h (by omega) l1.2
    have ce := can_end l r.to l2
    have hT' : endL r.to l ≤ 34359738368 := hT
    have b := chg_cnt hft hG p q F hF l (part G f t M r) e r.to a1 l2 a2 (by omega) hT'
    show cntR p q (l.foldl (part G f t) (part G f t M r)) = _
    rw [b, part_cnt hft hG p q M e r h (by omega) l1.2, hF r l1.2 (by omega) (by omega), List.map_cons, List.sum_cons]
    omega
theorem sum_len (p q : Int) : ∀ L : List Rg, (L.map (fun r => r.len p q)).sum = cntR p q L
  | [] => rfl
  | r :: l => by rw [List.map_cons, List.sum_cons, sum_len p q l]; rfl
theorem sum_sub (p q f t : Int) : ∀ L : List Rg, (L.map (fun r => r.len p q - r.len f t)).sum = cntR p q L - cntR f t L
  | [] => rfl
  | r :: l => by rw [List.map_cons, List.sum_cons, sum_sub p q f t l]; show _ = (r.len p q + cntR p q l) - (r.len f t + cntR f t l); omega
theorem cnt_cut {L : List Rg} (h : goodB L = true) (f t : Int) (hr : rightB f t = true) : cntR 0 34359738368 (chg (fun _ => Rg.zero) f t L) = cntR 0 34359738368 L - cntR f t L := by
  obtain ⟨c1, c2, c3⟩ := good_can h
  have r := right_is hr
  have := chg_cnt (by omega) (sem_cut f t) 0 34359738368 (fun r => r.len 0 34359738368 - r.len f t) (fun r h1 h2 h3 => by
    have z : Rg.zero.len 0 34359738368 = 0 := by unfold Rg.len Rg.zero; simp only; rw [if_neg (by omega)]
    show _ + Rg.zero.len 0 34359738368 + _ = _
    rw [z]
    unfold Rg.len Rg.upto Rg.from
    simp only
    split <;> split <;> split <;> split <;> omega) L [] 0 0 trivial c1 (Int.le_refl _) (Int.le_refl _) c2
  rw [sum_sub] at this
  rw [show chg (fun _ => Rg.zero) f t L = L.foldl (part (fun _ => Rg.zero) f t) [] from rfl, this]
  show 0 + _ = _
  omega
theorem cnt_prot {L : List Rg} (h : goodB L = true) (f t : Int) (a b c : Bool) (hr : rightB f t = true) (p q : Int) : cntR p q (chg (fun r => r.may a b c) f t L) = cntR p q L := by
  obtain ⟨c1, c2, c3⟩ := good_can h
  have r := right_is hr
  have := chg_cnt (by omega) (sem_prot a b c f t) p q (fun r => r.len p q) (fun r h1 h2 h3 => by
    show _ + ((r.mid f t).may a b c).len p q + _ = _
    unfold Rg.len Rg.upto Rg.from Rg.may Rg.mid
    simp only
    split <;> split <;> split <;> split <;> omega) L [] 0 0 trivial c1 (Int.le_refl _) (Int.le_refl _) c2
  rw [sum_len] at this
  rw [show chg (fun r => r.may a b c) f t L = L.foldl (part (fun r => r.may a b c) f t) [] from rfl, this]
  show 0 + _ = _
  omega
theorem cnt_add {L : List Rg} (h : Can 0 L) (r : Rg) (h0 : 0 ≤ r.fr) (h1 : r.fr < r.to) (hz : ¬ 0 < cntR r.fr r.to L) (p q : Int) : cntR p q (addL L r) = cntR p q L + r.len p q := by
  obtain ⟨t1, t2⟩ := ahead_take r.fr L
  unfold addL
  rw [t1, t2]
  have eL : L = L.takeWhile (lowR r.fr) ++ L.dropWhile (lowR r.fr) := (List.takeWhile_append_dropWhile).symm
  have eA := end_tw r.fr L 0 h0
  have hd := drop_head r.fr
  generalize hA : L.takeWhile (lowR r.fr) = A at eL eA ⊢
  generalize hB : L.dropWhile (lowR r.fr) = B at eL ⊢
  rw [eL] at h hz
  obtain ⟨s1, s2⟩ := can_split A B 0 h
  obtain ⟨p1, p2, p3⟩ := pre_can A [] 0 trivial s1
  have p2' : endL 0 (preL [] A) = endL 0 A := p2
  obtain ⟨w1, w2, w3⟩ := with_can (preL [] A) 0 r p1 (fun _ => by omega)
  rw [if_pos h1] at w2
  have cB : Can r.to B := by
    cases B with
    | nil => exact trivial
    | cons c B' =>
      have k1 := hd c B' L hB
      have k2 := s2.1
      have k3 : c.len r.fr r.to = 0 := by
        rw [cntR_append] at hz
        have z1 := cnt_nn r.fr r.to A
        have z2 := cnt_nn r.fr r.to B'
        have z3 := len_nn c r.fr r.to
        have z4 : cntR r.fr r.to (c :: B') = c.len r.fr r.to + cntR r.fr r.to B' := rfl
        omega
      have k4 : r.to ≤ c.fr := by
        unfold Rg.len at k3
        by_cases q : max c.fr r.fr < min c.to r.to
        · rw [if_pos q] at k3; omega
        · omega
      exact ⟨⟨k4, k2.2⟩, s2.2.1, s2.2.2⟩
  rw [cnt_pre p q B _ 0 w1 (by rw [w2]; exact cB), cnt_with p q _ 0 r p1 (fun _ => by omega), cnt_pre p q A [] 0 trivial s1, eL, cntR_append]
  show 0 + _ + _ + _ = _
  omega
theorem errA_zero {E : Int} {M : List Rg} (h : errA E M = 0) : E = 0 ∧ M.length ≤ 64 ∧ outL E M = M := by
  have k : outL E M = M := by unfold outL; rw [if_pos h]
  unfold errA at h
  by_cases a : E = 0
  · rw [if_pos a] at h
    by_cases b : M.length ≤ 64
    · exact ⟨a, b, k⟩
    · rw [if_neg b] at h; omega
  · rw [if_neg a] at h; exact absurd h a
theorem addN_zero {L : List Rg} {r : Rg} (h : addN L r = 0) : checkN L r.fr r.to = 0 ∧ ¬ 0 < cntR r.fr r.to L := by
  unfold addN at h
  by_cases a : checkN L r.fr r.to = 0
  · rw [if_pos a] at h
    by_cases b : 0 < cntR r.fr r.to L
    · rw [if_pos b] at h; omega
    · exact ⟨a, b⟩
  · rw [if_neg a] at h; exact absurd h a
theorem protN_zero {L : List Rg} {f t : Int} (h : protN L f t = 0) : checkN L f t = 0 := by
  unfold protN at h
  by_cases a : checkN L f t = 0
  · exact a
  · rw [if_neg a] at h; exact absurd h a
/-- a change that is made: which, and that its pages are right -/
theorem act_cases {L : List Rg} {a : Ac} (h : actE L a = 0) : rightB a.fr a.til = true ∧ goodB L = true ∧ ((a.how = 1 ∧ ¬ 0 < cntR a.fr a.til L ∧ (addL L a.rg).length ≤ 64 ∧ actL L a = addL L a.rg) ∨ (a.how = 2 ∧ (chg (fun _ => Rg.zero) a.fr a.til L).length ≤ 64 ∧ actL L a = chg (fun _ => Rg.zero) a.fr a.til L) ∨ (a.how = 3 ∧ (chg (fun r => r.may a.w a.u a.x) a.fr a.til L).length ≤ 64 ∧ actL L a = chg (fun r => r.may a.w a.u a.x) a.fr a.til L)) := by
  have hl : actL L a = actM L a := by unfold actL; rw [if_pos h]
  rw [hl]
  unfold actE at h
  unfold actM
  by_cases k1 : a.how = 1
  · rw [if_pos k1] at h ⊢
    obtain ⟨e1, e2, e3⟩ := errA_zero h
    obtain ⟨n1, n2⟩ := addN_zero e1
    obtain ⟨c1, c2⟩ := check_zero n1
    exact ⟨c1, c2, Or.inl ⟨k1, n2, e2, e3⟩⟩
  · rw [if_neg k1] at h ⊢
    by_cases k2 : a.how = 2
    · rw [if_pos k2] at h ⊢
      obtain ⟨e1, e2, e3⟩ := errA_zero h
      obtain ⟨c1, c2⟩ := check_zero e1
      exact ⟨c1, c2, Or.inr (Or.inl ⟨k2, e2, e3⟩)⟩
    · rw [if_neg k2] at h ⊢
      by_cases k3 : a.how = 3
      · rw [if_pos k3] at h ⊢
        obtain ⟨e1, e2, e3⟩ := errA_zero h
        obtain ⟨c1, c2⟩ := check_zero (protN_zero e1)
        exact ⟨c1, c2, Or.inr (Or.inr ⟨k3, e2, e3⟩)⟩
      · rw [if_neg k3] at h; omega
theorem act_good {L : List Rg} (g : goodB L = true) (a : Ac) : goodB (actL L a) = true := by
  by_cases h : actE L a = 0
  · obtain ⟨r, _, k⟩ := act_cases h
    have rr := right_is r
    obtain ⟨c1, c2, c3⟩ := good_can g
    rcases k with ⟨_, z, l, e⟩ | ⟨_, l, e⟩ | ⟨_, l, e⟩
    · rw [e]
      obtain ⟨x1, x2, _⟩ := add_can c1 a.rg (by show 0 ≤ a.fr; omega) (by show a.fr < a.til; omega) z
      exact can_good x1 (by have : a.rg.to = a.til := rfl
                            omega) l
    · rw [e]
      obtain ⟨x1, x2, _⟩ := chg_can (by omega) (sem_cut a.fr a.til) c1
      exact can_good x1 (by omega) l
    · rw [e]
      obtain ⟨x1, x2, _⟩ := chg_can (by omega) (sem_prot a.w a.u a.x a.fr a.til) c1
      exact can_good x1 (by omega) l
  · have : actL L a = L := by unfold actL; rw [if_neg h]
    rw [this]; exact g
theorem act_cnt {L : List Rg} (g : goodB L = true) (a : Ac) : cntR 0 34359738368 (actL L a) = if actE L a = 0 ∧ a.how = 1 then cntR 0 34359738368 L + a.til - a.fr else if actE L a = 0 ∧ a.how = 2 then cntR 0 34359738368 L - cntR a.fr a.til L else cntR 0 34359738368 L := by
  by_cases h : actE L a = 0
  · obtain ⟨r, _, k⟩ := act_cases h
    have rr := right_is r
    obtain ⟨c1, c2, c3⟩ := good_can g
    rcases k with ⟨k, z, l, e⟩ | ⟨k, l, e⟩ | ⟨k, l, e⟩
    · rw [if_pos ⟨h, k⟩, e, cnt_add c1 a.rg (by show 0 ≤ a.fr; omega) (by show a.fr < a.til; omega) z]
      have : a.rg.len 0 34359738368 = a.til - a.fr := by unfold Rg.len Ac.rg; simp only; rw [if_pos (by omega)]; omega
      omega
    · rw [if_neg (fun q => by omega), if_pos ⟨h, k⟩, e, cnt_cut g a.fr a.til r]
    · rw [if_neg (fun q => by omega), if_neg (fun q => by omega), e, cnt_prot g a.fr a.til _ _ _ r]
  · have : actL L a = L := by unfold actL; rw [if_neg h]
    rw [this, if_neg (fun q => h q.1), if_neg (fun q => h q.1)]
theorem cnt_bd (p q : Int) : ∀ (L : List Rg) (e : Int), Can e L → cntR p q L ≤ endL e L - e
  | [], e, _ => by show (0 : Int) ≤ e - e; omega
  | r :: l, e, h => by
    have i := cnt_bd p q l r.to h.2.1
    have h1 := h.1
    have : r.len p q ≤ r.to - r.fr := by unfold Rg.len; split <;> omega
    show r.len p q + cntR p q l ≤ endL r.to l - e
    omega
theorem good_bd {L : List Rg} (g : goodB L = true) (p q : Int) : 0 ≤ cntR p q L ∧ cntR p q L ≤ 34359738368 := by
  obtain ⟨c1, c2, c3⟩ := good_can g
  have := cnt_bd p q L 0 c1
  exact ⟨cnt_nn p q L, by omega⟩
end Go.Proofs.Ytngaodfajihmmaa
