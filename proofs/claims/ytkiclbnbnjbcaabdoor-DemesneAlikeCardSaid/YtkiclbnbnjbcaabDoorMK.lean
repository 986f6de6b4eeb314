/- TK0 TK1 -/
import Derived.Test.YtkiclbnbnjbcaabDoorME
import Derived.Test.YtkiclbnbnjbcaabDoorMG
namespace Go.Proofs.YtkiclbnbnjbcaabDoor.Tt
open Go.ChangeShapes Go.WideShapes Go.ChangeAt Go.RowKit Go.Maps
set_option linter.unusedSimpArgs false
set_option linter.unusedVariables false
set_option maxRecDepth 8000

theorem cnt_step {f t : Int} (hf : f ≤ t) : ∀ (L : List Re.Rg) (e : Int), Re.Can e L → Re.cntR f (t + 1) L = Re.cntR f t L + (if (Re.atR L t).isSome = true then 1 else 0)
  | [], _, _ => by show (0 : Int) = 0 + _; rw [if_neg (by show ¬ (none : Option Re.Att).isSome = true; simp)]; rfl
  | r :: l, e, h => by
    have ih := cnt_step hf l r.tt h.2.1
    have h1 := h.1
    show r.len f (t + 1) + Re.cntR f (t + 1) l = r.len f t + Re.cntR f t l + _
    rw [ih]
    have e1 : Re.atR (r :: l) t = if r.fr ≤ t ∧ t < r.tt then some r.att else Re.atR l t := rfl
    rw [e1]
    by_cases c : r.fr ≤ t ∧ t < r.tt
    · rw [if_pos c, Re.at_low l r.tt t h.2.1 c.2]
      have a : r.len f (t + 1) = r.len f t + 1 := by unfold Re.Rg.len; split <;> split <;> omega
      rw [if_neg (by simp), if_pos (by simp)]
      omega
    · rw [if_neg c]
      have a : r.len f (t + 1) = r.len f t := by unfold Re.Rg.len; split <;> split <;> omega
      rw [a]
      split <;> omega
theorem cnt_nil (f : Int) : ∀ L : List Re.Rg, Re.cntR f f L = 0
  | [] => rfl
  | r :: l => by
    show r.len f f + Re.cntR f f l = 0
    rw [cnt_nil f l]
    unfold Re.Rg.len
    rw [if_neg (by omega)]
    rfl
/-- how many of n pages from f on are there -/
def occ (L : List Re.Rg) (f : Nat) : Nat → Nat
  | 0 => 0
  | n + 1 => occ L f n + if (Re.atR L ((f + n : Nat) : Int)).isSome = true then 1 else 0
theorem cnt_occ {L : List Re.Rg} {e : Int} (h : Re.Can e L) (f : Nat) : ∀ n : Nat, Re.cntR (f : Int) ((f + n : Nat) : Int) L = occ L f n
  | 0 => cnt_nil _ L
  | n + 1 => by
    have ih := cnt_occ h f n
    have s := cnt_step (f := (f : Int)) (t := ((f + n : Nat) : Int)) (by omega) L e h
    rw [show (((f + (n + 1) : Nat)) : Int) = ((f + n : Nat) : Int) + 1 by omega, s, ih]
    show _ = ((occ L f n + if (Re.atR L ((f + n : Nat) : Int)).isSome = true then 1 else 0 : Nat) : Int)
    split <;> omega
theorem occ_le (L : List Re.Rg) (f : Nat) : ∀ n, occ L f n ≤ n
  | 0 => Nat.le_refl _
  | n + 1 => by
    have := occ_le L f n
    show occ L f n + (if _ then 1 else 0) ≤ _
    split <;> omega
theorem occ_none (L : List Re.Rg) (f : Nat) : ∀ n, occ L f n = 0 → ∀ x : Nat, f ≤ x → x < f + n → Re.atR L (x : Int) = none
  | 0, _, x, a, b => by omega
  | n + 1, h, x, a, b => by
    have h' : occ L f n + (if (Re.atR L ((f + n : Nat) : Int)).isSome = true then 1 else 0) = 0 := h
    by_cases c : x = f + n
    · subst c
      cases q : Re.atR L ((f + n : Nat) : Int) with
      | none => rfl
      | some v => rw [q, if_pos (by simp)] at h'; omega
    · exact occ_none L f n (by omega) x a (by omega)
theorem occ_all (L : List Re.Rg) (f : Nat) : ∀ n, n ≤ occ L f n → ∀ x : Nat, f ≤ x → x < f + n → ∃ v, Re.atR L (x : Int) = some v
  | 0, _, x, a, b => by omega
  | n + 1, h, x, a, b => by
    have h' : n + 1 ≤ occ L f n + (if (Re.atR L ((f + n : Nat) : Int)).isSome = true then 1 else 0) := h
    have l := occ_le L f n
    by_cases c : x = f + n
    · subst c
      cases q : Re.atR L ((f + n : Nat) : Int) with
      | none => rw [q, if_neg (by simp)] at h'; omega
      | some v => exact ⟨v, rfl⟩
    · refine occ_all L f n ?_ x a (by omega)
      split at h' <;> omega
theorem tabs4 : ∀ P : List Nat, (∀ p, p ∈ P → p < 512) → tabsN P ≤ 4
  | [], _ => by show 1 ≤ 4; omega
  | [p], _ => by have := fresh_le [] p; show 1 + fresh [] p ≤ 4; omega
  | p :: q :: P, h => by
    have ih := tabs4 (q :: P) (fun x hx => h x (List.mem_cons_of_mem _ hx))
    have hp := h p List.mem_cons_self
    have hq := h q (List.mem_cons_of_mem _ List.mem_cons_self)
    have z1 : pre 1 q = pre 1 p := by show q / 512 = p / 512; omega
    have z2 : pre 2 q = pre 2 p := by show q / 512 / 512 = p / 512 / 512; omega
    have z3 : pre 3 q = pre 3 p := by show q / 512 / 512 / 512 = p / 512 / 512 / 512; omega
    have m : q ∈ q :: P := List.mem_cons_self
    show tabsN (q :: P) + (frL 1 (q :: P) p + frL 2 (q :: P) p + frL 3 (q :: P) p) ≤ 4
    rw [frL_zero m z1, frL_zero m z2, frL_zero m z3]
    exact ih
/-- what the list says of a page, as tables say it -/
def img (L : List Re.Rg) (x : Nat) : Option Lf := (Re.atR L (x : Int)).map (fun a => ⟨(x : Int) + 100, a.1, a.2.1, a.2.2.1⟩)
/-- a list of pages below 40 -/
structure Lw (L : List Re.Rg) : Prop where
  can : Re.Can 0 L
  en : Re.endL 0 L ≤ 40
  len : L.length ≤ 64
theorem Lw.good {L : List Re.Rg} (h : Lw L) : Re.goodB L = true := Re.can_good h.can (by have := h.en; omega) h.len
theorem Lw.lo {L : List Re.Rg} (h : Lw L) {x : Nat} (q : (img L x).isSome = true) : x < 40 := by
  by_cases c : x < 40
  · exact c
  · unfold img at q
    rw [Re.at_high L 0 (x : Int) h.can (by have := h.en; omega)] at q
    cases q
/-- pages from f to k as M says, the others as L does -/
def Md (L M : List Re.Rg) (f k : Nat) (lf : Nat → Option Lf) : Prop := ∀ x : Nat, lf x = if f ≤ x ∧ x < k then img M x else img L x
theorem Md.lo {L M : List Re.Rg} {f k : Nat} {lf : Nat → Option Lf} (h : Md L M f k lf) (hL : Lw L) (hM : Lw M) {x : Nat} (q : (lf x).isSome = true) : x < 40 := by
  rw [h x] at q
  split at q
  · exact hM.lo q
  · exact hL.lo q
theorem pgs_lo {lf : Nat → Option Lf} (h : ∀ x, (lf x).isSome = true → x < 40) : tabsN (pgs lf) ≤ 4 := tabs4 _ (fun p hp => by
  have := h p ((mem_pg lf p 4 0).1 hp).2
  omega)
theorem len_filter (g : Nat → Bool) (L : List Re.Rg) (h : ∀ x : Nat, g x = (Re.atR L (x : Int)).isSome) : ∀ n, ((List.range n).filter g).length = occ L 0 n
  | 0 => rfl
  | n + 1 => by
    rw [List.range_succ, List.filter_append, List.length_append, len_filter g L h n]
    show _ = occ L 0 n + if (Re.atR L ((0 + n : Nat) : Int)).isSome = true then 1 else 0
    rw [Nat.zero_add]
    have e := h n
    cases q : (Re.atR L (n : Int)).isSome with
    | true => rw [q] at e; simp [List.filter, e]
    | false => rw [q] at e; simp [List.filter, e]
theorem pgs_cnt {L : List Re.Rg} (h : Lw L) {lf : Nat → Option Lf} (a : ∀ x : Nat, lf x = img L x) : (pgs lf).length = occ L 0 40 := by
  have sm : ∀ x : Nat, (lf x).isSome = (Re.atR L (x : Int)).isSome := fun x => by rw [a x]; unfold img; simp
  have e : pgs lf = (List.range 40).filter (fun x => (lf x).isSome) := by
    refine rise_eq (pg_rising lf 4 0) (List.pairwise_lt_range.filter _) (fun x => ?_)
    rw [mem_pg, List.mem_filter, List.mem_range]
    constructor
    · rintro ⟨_, q⟩
      exact ⟨h.lo (by rw [← a x]; exact q), q⟩
    · rintro ⟨q1, q⟩
      exact ⟨pre4 (by omega), q⟩
  rw [e]
  exact len_filter _ L sm 40
/-- Find, as the tables say it -/
theorem find_at : ∀ (L : List Re.Rg) (x : Int), ((Re.findR L x).2 = (Re.atR L x).isSome) ∧ ∀ a, Re.atR L x = some a → (Re.findR L x).1.att = a
  | [], x => ⟨rfl, fun a h => by cases h⟩
  | r :: l, x => by
    have e1 : Re.atR (r :: l) x = if r.fr ≤ x ∧ x < r.tt then some r.att else Re.atR l x := rfl
    have e2 : Re.findR (r :: l) x = if r.fr ≤ x ∧ x < r.tt then (r, true) else Re.findR l x := rfl
    rw [e1, e2]
    by_cases c : r.fr ≤ x ∧ x < r.tt
    · rw [if_pos c, if_pos c]
      exact ⟨rfl, fun a h => Option.some.inj h⟩
    · rw [if_neg c, if_neg c]
      exact find_at l x
section
variable {X : Nat → Prop} {m : Pm} {root : Nat} {s : Ps} {tab : Nat → Nat → Option Nat} {lf : Nat → Option Lf} {W : World} {L M : List Re.Rg} {f k : Nat}
theorem st_grow {w : World} {R U : Int} {F kk : Nat} (h : St X m root kk R U F s tab lf W) (hb : Below W.heap.size W w) : St (XW X W w) m root kk R U F s tab lf w := ⟨h.pu.grow hb, h.rt, h.nm, h.tF⟩
def Stp (X : Nat → Prop) (m : Pm) (root : Nat) (s : Ps) (L M : List Re.Rg) (f k : Nat) (W w' : World) : Prop :=
  ∃ (s' : Ps) (tab' : Nat → Nat → Option Nat) (lf' : Nat → Option Lf), St X m root 0 58 2 57 s' tab' lf' w' ∧ Md L M f k lf' ∧ s'.q ≤ s.q + 10 ∧ Kx X W w'
theorem stp_of {lf' : Nat → Option Lf} {w' : World} (h : StTo X m root 0 58 2 57 s tab lf' W w') (md : Md L M f k lf') : Stp X m root s L M f k W w' := by
  obtain ⟨s', tab', a, b, _, c⟩ := h
  exact ⟨s', tab', lf', a, md, b, c⟩
theorem Md.next (h : Md L M f k lf) (hk : f ≤ k) {o : Option Lf} (e : img M k = o) : Md L M f (k + 1) (lfSet lf k o) := fun x => by
  by_cases c : x = k
  · subst c
    rw [lf_same, if_pos (by omega), e]
  · rw [lf_other c, h x]
    by_cases d : f ≤ x ∧ x < k
    · rw [if_pos d, if_pos (by omega)]
    · rw [if_neg d, if_neg (by omega)]
theorem Md.at (h : Md L M f k lf) : lf k = img L k := by rw [h k, if_neg (by omega)]
theorem alk_map (hL : Lw L) (hM : Lw M) (h : St X m root 0 58 2 57 s tab lf W) (md : Md L M f k lf) (hk : f ≤ k) (k4 : k < 40) (hq : s.q < 3000000000000000000) (pa pb pc : Bool) (kd : Int) (e0 : Re.atR L (k : Int) = none) (e1 : Re.atR M (k : Int) = some (pa, pb, pc, kd)) :
    Calls Tryd.prog 11 #[pv m 0, .int .i64 root, .int .i64 (k : Int), .int .i64 ((k : Int) + 100), .agg #[.bool pa, .bool pb, .bool pc]] W fun e w' => e = .returned (.int .i64 0) ∧ Stp X m root s L M f (k + 1) W w' := by
  have t4 := pgs_lo (fun x q => md.lo hL hM q)
  have fl := fresh_le (pgs lf) k
  have q := h.map_ok (Or.inr (by omega)) (by omega) k (by omega) ((k : Int) + 100) ⟨by omega, by omega⟩ pa pb pc (by rw [md.at]; unfold img; rw [e0]; rfl) (by omega)
  refine Calls.mono q ?_
  rintro e w' ⟨he, hs⟩
  exact ⟨he, stp_of hs (md.next hk (by unfold img; rw [e1]; rfl))⟩
theorem alk_unmap (hL : Lw L) (hM : Lw M) (h : St X m root 0 58 2 57 s tab lf W) (md : Md L M f k lf) (hk : f ≤ k) (k4 : k < 40) (hq : s.q < 3000000000000000000) (e1 : Re.atR M (k : Int) = none) :
    Calls Tryd.prog 12 #[pv m 0, .int .i64 root, .int .i64 (k : Int)] W fun e w' => (∃ a b : Int, e = .returned (.tuple #[.int .i64 a, .int .i64 b])) ∧ Stp X m root s L M f (k + 1) W w' := by
  have im : img M k = none := by unfold img; rw [e1]; rfl
  cases c : lf k with
  | none =>
    have q := h.unmap_none (k : Int) (Or.inr (by rw [Int.toNat_natCast]; exact c))
    refine Calls.mono q ?_
    rintro e w' ⟨he, hs⟩
    refine ⟨⟨_, _, he⟩, stp_of hs ?_⟩
    have n := md.next hk im
    have e2 : lfSet lf k none = lf := by
      funext x
      by_cases d : x = k
      · subst d; rw [lf_same, c]
      · rw [lf_other d]
    rw [e2] at n
    exact n
  | some v =>
    have q := h.unmap_ok (by omega) (by omega) k c
    refine Calls.mono q ?_
    rintro e w' ⟨he, hs⟩
    exact ⟨⟨_, _, he⟩, stp_of hs (md.next hk im)⟩
theorem alk_prot (hL : Lw L) (hM : Lw M) (h : St X m root 0 58 2 57 s tab lf W) (md : Md L M f k lf) (hk : f ≤ k) (k4 : k < 40) (hq : s.q < 3000000000000000000) (pa pb pc : Bool) (kd : Int) {v : Re.Att} (e0 : Re.atR L (k : Int) = some v) (e1 : Re.atR M (k : Int) = some (pa, pb, pc, kd)) :
    Calls Tryd.prog 13 #[pv m 0, .int .i64 root, .int .i64 (k : Int), .agg #[.bool pa, .bool pb, .bool pc]] W fun e w' => e = .returned (.int .i64 0) ∧ Stp X m root s L M f (k + 1) W w' := by
  have q := h.protect_ok (by omega) k pa pb pc (v := ⟨(k : Int) + 100, v.1, v.2.1, v.2.2.1⟩) (by rw [md.at]; unfold img; rw [e0]; rfl)
  refine Calls.mono q ?_
  rintro e w' ⟨he, hs⟩
  exact ⟨he, stp_of hs (md.next hk (by unfold img; rw [e1]; rfl))⟩
/-- a list that is kept -/
theorem isl_kx {p : Option Addr} {w' : World} (h : Re.IsL W 0 p L) (hk : Kx X W w') (hy : ∀ g, L ≠ [] → p = some ⟨g, 0, none⟩ → X g) : Re.IsL w' 0 p L := fun i hi => by
  obtain ⟨g, e, l1, l2, c⟩ := h i hi
  have ne : L ≠ [] := fun q => by rw [q] at hi; exact absurd hi (Nat.not_lt_zero _)
  exact ⟨g, e, l1, Nat.lt_of_lt_of_le l2 hk.size, fun j x hx => (World.cell?_of_block (hk.block g (hy g ne e))).trans (c j x hx)⟩
/-- what the three changes make of a list -/
def Chd (L M : List Re.Rg) (how : Int) (f t : Nat) (pa pb pc : Bool) (kd : Int) : Prop := Lw M ∧ f < t ∧ (∀ x : Nat, ¬ (f ≤ x ∧ x < t) → Re.atR M (x : Int) = Re.atR L (x : Int)) ∧ ∀ x : Nat, f ≤ x → x < t →
  (how = 1 → Re.atR L (x : Int) = none ∧ Re.atR M (x : Int) = some (pa, pb, pc, kd)) ∧ (how = 2 → Re.atR M (x : Int) = none) ∧ (how = 3 → ∃ v : Re.Att, Re.atR L (x : Int) = some v ∧ ∃ kd', Re.atR M (x : Int) = some (pa, pb, pc, kd'))
theorem len64 {E : Int} {M : List Re.Rg} (h : Re.errA E M = 0) : E = 0 ∧ M.length ≤ 64 := by
  unfold Re.errA at h
  by_cases c : E = 0
  · rw [if_pos c] at h
    by_cases d : M.length ≤ 64
    · exact ⟨c, d⟩
    · rw [if_neg d] at h; omega
  · rw [if_neg c] at h; exact absurd h c
theorem out_zero {E : Int} {M : List Re.Rg} (h : Re.errA E M = 0) : Re.outL E M = M := by unfold Re.outL; rw [if_pos h]
theorem chd_add (hL : Lw L) {fi ti : Int} (t4 : ti ≤ 40) (pa pb pc : Bool) (kd : Int) (h : Re.errA (Re.addN L ⟨fi, ti, pa, pb, pc, kd⟩) (Re.addL L ⟨fi, ti, pa, pb, pc, kd⟩) = 0) :
    ∃ f t : Nat, fi = f ∧ ti = t ∧ Chd L (Re.addL L ⟨fi, ti, pa, pb, pc, kd⟩) 1 f t pa pb pc kd := by
  obtain ⟨h1, h2⟩ := len64 h
  have h1' : (if Re.checkN L fi ti = 0 then (if 0 < Re.cntR fi ti L then 6 else 0) else Re.checkN L fi ti) = 0 := h1
  by_cases c : Re.checkN L fi ti = 0
  · rw [if_pos c] at h1'
    by_cases d : 0 < Re.cntR fi ti L
    · rw [if_pos d] at h1'; omega
    · obtain ⟨r1, r2, _, _⟩ := Re.right_is (Re.check_zero c).1
      obtain ⟨f, rfl⟩ := Int.eq_ofNat_of_zero_le r1
      obtain ⟨t, rfl⟩ := Int.eq_ofNat_of_zero_le (show 0 ≤ ti by omega)
      obtain ⟨a1, a2, a3⟩ := Re.add_can hL.can ⟨(f : Int), (t : Int), pa, pb, pc, kd⟩ r1 r2 d
      have a3' : ∀ x : Int, Re.atR (Re.addL L ⟨(f : Int), (t : Int), pa, pb, pc, kd⟩) x = if (f : Int) ≤ x ∧ x < (t : Int) then some (pa, pb, pc, kd) else Re.atR L x := a3
      have a2' : Re.endL 0 (Re.addL L ⟨(f : Int), (t : Int), pa, pb, pc, kd⟩) ≤ max (t : Int) (Re.endL 0 L) := a2
      obtain ⟨n, rfl⟩ : ∃ n, t = f + n := ⟨t - f, by omega⟩
      have oz : occ L f n = 0 := by have := cnt_occ hL.can f n; omega
      refine ⟨f, f + n, rfl, rfl, ⟨a1, by have := hL.en; omega, h2⟩, by omega, fun x hx => by rw [a3', if_neg (by omega)], fun x x1 x2 => ⟨fun _ => ⟨occ_none L f n oz x x1 x2, by rw [a3', if_pos (by omega)]⟩, fun q => by omega, fun q => by omega⟩⟩
  · rw [if_neg c] at h1'; exact absurd h1' c
theorem chd_cut (hL : Lw L) {fi ti : Int} (t4 : ti ≤ 40) (pa pb pc : Bool) (kd : Int) (h : Re.errA (Re.checkN L fi ti) (Re.chg (fun _ => Re.Rg.zero) fi ti L) = 0) :
    ∃ f t : Nat, fi = f ∧ ti = t ∧ Chd L (Re.chg (fun _ => Re.Rg.zero) fi ti L) 2 f t pa pb pc kd := by
  obtain ⟨c, h2⟩ := len64 h
  obtain ⟨r1, r2, _, _⟩ := Re.right_is (Re.check_zero c).1
  obtain ⟨f, rfl⟩ := Int.eq_ofNat_of_zero_le r1
  obtain ⟨t, rfl⟩ := Int.eq_ofNat_of_zero_le (show 0 ≤ ti by omega)
  obtain ⟨a1, a2, a3⟩ := Re.chg_can (show (f : Int) ≤ t by omega) (Re.sem_cut f t) hL.can
  refine ⟨f, t, rfl, rfl, ⟨a1, by have := hL.en; omega, h2⟩, by omega, fun x hx => by rw [a3, if_neg (by omega)], fun x x1 x2 => ⟨fun q => by omega, fun _ => ?_, fun q => by omega⟩⟩
  rw [a3, if_pos (by omega)]
  cases Re.atR L (x : Int) <;> rfl
theorem chd_prot (hL : Lw L) {fi ti : Int} (t4 : ti ≤ 40) (pa pb pc : Bool) (kd : Int) (h : Re.errA (Re.protN L fi ti) (Re.chg (fun r => r.may pa pb pc) fi ti L) = 0) :
    ∃ f t : Nat, fi = f ∧ ti = t ∧ Chd L (Re.chg (fun r => r.may pa pb pc) fi ti L) 3 f t pa pb pc kd := by
  obtain ⟨h1, h2⟩ := len64 h
  have h1' : (if Re.checkN L fi ti = 0 then (if Re.cntR fi ti L < ti - fi then 5 else 0) else Re.checkN L fi ti) = 0 := h1
  by_cases c : Re.checkN L fi ti = 0
  · rw [if_pos c] at h1'
    by_cases d : Re.cntR fi ti L < ti - fi
    · rw [if_pos d] at h1'; omega
    · obtain ⟨r1, r2, _, _⟩ := Re.right_is (Re.check_zero c).1
      obtain ⟨f, rfl⟩ := Int.eq_ofNat_of_zero_le r1
      obtain ⟨t, rfl⟩ := Int.eq_ofNat_of_zero_le (show 0 ≤ ti by omega)
      obtain ⟨a1, a2, a3⟩ := Re.chg_can (show (f : Int) ≤ t by omega) (Re.sem_prot pa pb pc f t) hL.can
      obtain ⟨n, rfl⟩ : ∃ n, t = f + n := ⟨t - f, by omega⟩
      have oz : n ≤ occ L f n := by have := cnt_occ hL.can f n; omega
      refine ⟨f, f + n, rfl, rfl, ⟨a1, by have := hL.en; omega, h2⟩, by omega, fun x hx => by rw [a3, if_neg (by omega)], fun x x1 x2 => ⟨fun q => by omega, fun q => by omega, fun _ => ?_⟩⟩
      obtain ⟨v, hv⟩ := occ_all L f n oz x x1 x2
      refine ⟨v, hv, v.2.2.2, ?_⟩
      rw [a3, if_pos (by omega), hv]
      rfl
  · rw [if_neg c] at h1'; exact absurd h1' c
theorem md_start (a : ∀ x : Nat, lf x = img L x) (M : List Re.Rg) (f : Nat) : Md L M f f lf := fun x => by rw [if_neg (by omega)]; exact a x
theorem md_end {how : Int} {t : Nat} {pa pb pc : Bool} {kd : Int} (c : Chd L M how f t pa pb pc kd) (h : Md L M f t lf) : ∀ x : Nat, lf x = img M x := fun x => by
  rw [h x]
  by_cases d : f ≤ x ∧ x < t
  · rw [if_pos d]
  · rw [if_neg d]
    unfold img
    rw [c.2.2.1 x d]
end
end Go.Proofs.YtkiclbnbnjbcaabDoor.Tt
namespace Go.Proofs.YtkiclbnbnjbcaabDoor.Tt
open Go.ChangeShapes Go.WideShapes Go.ChangeAt Go.RowKit Go.Maps
set_option linter.unusedSimpArgs false
set_option linter.unusedVariables false
set_option maxRecDepth 8000

theorem cut_new (p : Option Addr) (c : Nat) (L : List Re.Rg) (hL : L.length ≤ 100) (qf qt : Int) (E : Int) (M : List Re.Rg) (hE : Re.errA (Re.checkN L qf qt) (Re.chg (fun _ => Re.Rg.zero) qf qt L) = E) (hM : Re.outL (Re.checkN L qf qt) (Re.chg (fun _ => Re.Rg.zero) qf qt L) = M) (w : World) (h : Re.IsL w 0 p L) :
    Calls Tryd.prog 9 #[.slice p L.length c, Re.rgV qf qt] w fun e w' => ∃ p' c', e = .returned (.tuple #[.slice p' M.length c', .int .i64 E]) ∧ M.length ≤ c' ∧ Re.IsL w' w.heap.size p' M ∧ Below w.heap.size w w' :=
  (Re.cut_any 0 p c L hL qf qt w h).mono fun e w' ⟨v, er, h1, h2, h3⟩ => by
    obtain ⟨k1, p', c', k2, k3, k4⟩ := Re.ans_readb h2
    rw [hE] at k1; rw [hM] at k2 k3 k4
    exact ⟨p', c', by rw [h1, k1, k2], k3, k4, h3⟩
theorem prot_new (p : Option Addr) (c : Nat) (L : List Re.Rg) (hL : L.length ≤ 100) (qf qt : Int) (pa pb pc : Bool) (E : Int) (M : List Re.Rg) (hE : Re.errA (Re.protN L qf qt) (Re.chg (fun r => r.may pa pb pc) qf qt L) = E) (hM : Re.outL (Re.protN L qf qt) (Re.chg (fun r => r.may pa pb pc) qf qt L) = M) (w : World) (h : Re.IsL w 0 p L) :
    Calls Tryd.prog 10 #[.slice p L.length c, Re.rgV qf qt, Re.pmV pa pb pc] w fun e w' => ∃ p' c', e = .returned (.tuple #[.slice p' M.length c', .int .i64 E]) ∧ M.length ≤ c' ∧ Re.IsL w' w.heap.size p' M ∧ Below w.heap.size w w' :=
  (Re.prot_any 0 p c L hL qf qt pa pb pc w h).mono fun e w' ⟨v, er, h1, h2, h3⟩ => by
    obtain ⟨k1, p', c', k2, k3, k4⟩ := Re.ans_readb h2
    rw [hE] at k1; rw [hM] at k2 k3 k4
    exact ⟨p', c', by rw [h1, k1, k2], k3, k4, h3⟩
theorem add_new (p : Option Addr) (c : Nat) (L : List Re.Rg) (hL : L.length ≤ 100) (hc : L.length ≤ c) (r : Re.Rg) (E : Int) (M : List Re.Rg) (hE : Re.errA (Re.addN L r) (Re.addL L r) = E) (hM : Re.outL (Re.addN L r) (Re.addL L r) = M) (w : World) (h : Re.IsL w 0 p L) :
    Calls Tryd.prog 8 #[.slice p L.length c, r.val] w fun e w' => ∃ p' c', e = .returned (.tuple #[.slice p' M.length c', .int .i64 E]) ∧ M.length ≤ c' ∧ Re.IsL w' w.heap.size p' M ∧ Below w.heap.size w w' :=
  (Re.add_any 0 p c L hL hc r w h).mono fun e w' ⟨v, er, h1, h2, h3⟩ => by
    obtain ⟨k1, p', c', k2, k3, k4⟩ := Re.ans_readb h2
    rw [hE] at k1; rw [hM] at k2 k3 k4
    exact ⟨p', c', by rw [h1, k1, k2], k3, k4, h3⟩
/-- between two changes: the list, and tables that say the same -/
structure AlS (m : Pm) (root : Nat) (X : Nat → Prop) (w2 : World) (n : Nat) (Y : Nat → Prop) (s : Ps) (tab : Nat → Nat → Option Nat) (lf : Nat → Option Lf) (L : List Re.Rg) (p : Option Addr) (c : Nat) (W : World) : Prop where
  c1 : L.length ≤ c
  is : Re.IsL W 0 p L
  g : ∀ g, L ≠ [] → p = some ⟨g, 0, none⟩ → Y g
  lw : Lw L
  al : ∀ x : Nat, lf x = img L x
  st : St Y m root 0 58 2 57 s tab lf W
  q : s.q ≤ 6000 + 400 * n
  xy : ∀ j, X j → Y j
  kx : Kx X w2 W
def AlO (m : Pm) (root : Nat) (X : Nat → Prop) (w2 : World) (n : Nat) (v : Value) (W : World) : Prop := ∃ (Y : Nat → Prop) (s : Ps) (tab : Nat → Nat → Option Nat) (lf : Nat → Option Lf) (L : List Re.Rg) (p : Option Addr) (c : Nat), v = .slice p L.length c ∧ AlS m root X w2 n Y s tab lf L p c W
/-- within a change -/
def AlI (m : Pm) (root : Nat) (Y : Nat → Prop) (w3 : World) (L M : List Re.Rg) (f n k : Nat) (W : World) : Prop := ∃ (s : Ps) (tab : Nat → Nat → Option Nat) (lf : Nat → Option Lf), St Y m root 0 58 2 57 s tab lf W ∧ Md L M f k lf ∧ s.q ≤ 6000 + 400 * n + 10 * k ∧ Kx Y w3 W
section
variable {m : Pm} {root n : Nat} {X Y : Nat → Prop} {w2 W w3 : World} {s : Ps} {tab : Nat → Nat → Option Nat} {lf : Nat → Option Lf} {L M : List Re.Rg} {p : Option Addr} {c f k : Nat}
theorem AlS.below {w : World} (h : AlS m root X w2 n Y s tab lf L p c W) (hb : Below W.heap.size W w) : AlS m root X w2 n Y s tab lf L p c w :=
  ⟨h.c1, h.is.below hb, h.g, h.lw, h.al, h.st.below hb, h.q, h.xy, h.kx.trans ((Kx.of_below h.st.pu hb).sub h.xy)⟩
theorem AlS.more {n' : Nat} (h : AlS m root X w2 n Y s tab lf L p c W) (hn : n ≤ n') : AlS m root X w2 n' Y s tab lf L p c W :=
  ⟨h.c1, h.is, h.g, h.lw, h.al, h.st, by have := h.q; omega, h.xy, h.kx⟩
theorem AlO.more {n' : Nat} {v : Value} (h : AlO m root X w2 n v W) (hn : n ≤ n') : AlO m root X w2 n' v W := by
  obtain ⟨Y, s, tab, lf, L, p, c, e, h⟩ := h
  exact ⟨Y, s, tab, lf, L, p, c, e, h.more hn⟩
theorem AlS.stay {w : World} (h : AlS m root X w2 n Y s tab lf L p c W) (hb : Below W.heap.size W w) : AlO m root X w2 (n + 1) (.slice p L.length c) w :=
  ⟨Y, s, tab, lf, L, p, c, rfl, (h.below hb).more (by omega)⟩
theorem AlS.start (h : AlS m root X w2 n Y s tab lf L p c W) (hb : Below W.heap.size W w3) (M : List Re.Rg) (f : Nat) : AlI m root (XW Y W w3) w3 L M f n f w3 :=
  ⟨s, tab, lf, st_grow h.st hb, md_start h.al M f, by have := h.q; omega, ⟨rfl, rfl, rfl, Nat.le_refl _, fun _ _ => rfl⟩⟩
theorem AlS.done {how : Int} {t c' : Nat} {pa pb pc : Bool} {kd : Int} {p' : Option Addr} {w0 w : World} (h : AlS m root X w2 n Y s tab lf L p c W) (hb : Below W.heap.size W w3) (hc : Chd L M how f t pa pb pc kd) (t4 : t ≤ 40) (hI : AlI m root (XW Y W w3) w3 L M f n t w) (h0 : W.heap.size ≤ w0.heap.size) (cM : M.length ≤ c') (iM : Re.IsL w3 w0.heap.size p' M) : AlO m root X w2 (n + 1) (.slice p' M.length c') w := by
  obtain ⟨s', tab', lf', st, md, q, kx⟩ := hI
  have g' : ∀ g, M ≠ [] → p' = some ⟨g, 0, none⟩ → XW Y W w3 g := fun g ne e => by
    obtain ⟨g', e', l1, l2, _⟩ := iM 0 (Nat.pos_of_ne_zero (fun z => ne (List.eq_nil_of_length_eq_zero z)))
    rw [e] at e'
    cases e'
    exact Or.inr ⟨by omega, l2⟩
  refine ⟨XW Y W w3, s', tab', lf', M, p', c', rfl, cM, isl_kx (iM.weak (Nat.zero_le _)) kx g', g', hc.1, md_end hc md, st, by omega, fun j hj => Or.inl (h.xy j hj), ?_⟩
  exact (h.below hb).kx.trans (kx.sub (fun j hj => Or.inl (h.xy j hj)))
variable {pa pb pc : Bool} {kd : Int} {t : Nat}
theorem ali_of {w' : World} {s : Ps} (h : Stp Y m root s L M f (k + 1) W w') (hq : s.q ≤ 6000 + 400 * n + 10 * k) (hk : Kx Y w3 W) : AlI m root Y w3 L M f n (k + 1) w' := by
  obtain ⟨s', tab', lf', a, b, c, d⟩ := h
  exact ⟨s', tab', lf', a, b, by omega, hk.trans d⟩
theorem AlI.map (hL : Lw L) (hc : Chd L M 1 f t pa pb pc kd) (h : AlI m root Y w3 L M f n k W) (hn : n ≤ 30) (hk : f ≤ k) (kt : k < t) (t4 : t ≤ 40) :
    Calls Tryd.prog 11 #[pv m 0, .int .i64 root, .int .i64 (k : Int), .int .i64 ((k : Int) + 100), .agg #[.bool pa, .bool pb, .bool pc]] W fun e w' => e = .returned (.int .i64 0) ∧ AlI m root Y w3 L M f n (k + 1) w' := by
  obtain ⟨s, tab, lf, st, md, q, kx⟩ := h
  obtain ⟨e0, e1⟩ := (hc.2.2.2 k hk kt).1 rfl
  refine Calls.mono (alk_map hL hc.1 st md hk (by omega) (by omega) pa pb pc kd e0 e1) ?_
  rintro e w' ⟨he, hs⟩
  exact ⟨he, ali_of hs q kx⟩
theorem AlI.unmap (hL : Lw L) (hc : Chd L M 2 f t pa pb pc kd) (h : AlI m root Y w3 L M f n k W) (hn : n ≤ 30) (hk : f ≤ k) (kt : k < t) (t4 : t ≤ 40) :
    Calls Tryd.prog 12 #[pv m 0, .int .i64 root, .int .i64 (k : Int)] W fun e w' => (∃ a b : Int, e = .returned (.tuple #[.int .i64 a, .int .i64 b])) ∧ AlI m root Y w3 L M f n (k + 1) w' := by
  obtain ⟨s, tab, lf, st, md, q, kx⟩ := h
  refine Calls.mono (alk_unmap hL hc.1 st md hk (by omega) (by omega) ((hc.2.2.2 k hk kt).2.1 rfl)) ?_
  rintro e w' ⟨he, hs⟩
  exact ⟨he, ali_of hs q kx⟩
theorem AlI.prot (hL : Lw L) (hc : Chd L M 3 f t pa pb pc kd) (h : AlI m root Y w3 L M f n k W) (hn : n ≤ 30) (hk : f ≤ k) (kt : k < t) (t4 : t ≤ 40) :
    Calls Tryd.prog 13 #[pv m 0, .int .i64 root, .int .i64 (k : Int), .agg #[.bool pa, .bool pb, .bool pc]] W fun e w' => e = .returned (.int .i64 0) ∧ AlI m root Y w3 L M f n (k + 1) w' := by
  obtain ⟨s, tab, lf, st, md, q, kx⟩ := h
  obtain ⟨v, e0, kd', e1⟩ := (hc.2.2.2 k hk kt).2.2 rfl
  refine Calls.mono (alk_prot hL hc.1 st md hk (by omega) (by omega) pa pb pc kd' e0 e1) ?_
  rintro e w' ⟨he, hs⟩
  exact ⟨he, ali_of hs q kx⟩
/-- the end: a page -/
theorem AlS.page (h : AlS m root X w2 n Y s tab lf L p c W) (x : Nat) : (∃ r : Re.Rg, Hid (∀ w : World, Below W.heap.size W w → Calls Tryd.prog 14 #[.slice p L.length c, .int .i64 (x : Int)] w fun e w' => e = .returned (.tuple #[r.val, .bool false]) ∧ Below w.heap.size w w') ∧
      Hid (∀ w : World, Below W.heap.size W w → Calls Tryd.prog 15 #[pv m 0, .int .i64 root, .int .i64 (x : Int)] w fun e w' => e = .returned (.tuple #[.int .i64 0, .agg #[.bool false, .bool false, .bool false], .bool false]) ∧ Below w.heap.size w w')) ∨
    ∃ r : Re.Rg, Hid (∀ w : World, Below W.heap.size W w → Calls Tryd.prog 14 #[.slice p L.length c, .int .i64 (x : Int)] w fun e w' => e = .returned (.tuple #[r.val, .bool true]) ∧ Below w.heap.size w w') ∧
      Hid (∀ w : World, Below W.heap.size W w → Calls Tryd.prog 15 #[pv m 0, .int .i64 root, .int .i64 (x : Int)] w fun e w' => e = .returned (.tuple #[.int .i64 ((x : Int) + 100), .agg #[.bool r.w, .bool r.u, .bool r.x], .bool true]) ∧ Below w.heap.size w w') := by
  obtain ⟨f1, f2⟩ := find_at L (x : Int)
  have l64 := h.lw.len
  have qc : ∀ w : World, Below W.heap.size W w → _ := fun w hb => query_any (h.st.below hb).pu h.st.rt 0 x
  have fc : ∀ w : World, Below W.heap.size W w → _ := fun w hb => Re.find_any 0 p c L (by omega) (x : Int) w (h.is.below hb)
  rw [h.al x] at qc
  unfold img at qc
  cases e : Re.atR L (x : Int) with
  | none =>
    left
    rw [e] at f1 qc
    refine ⟨(Re.findR L (x : Int)).1, fun w hb => ?_, fun w hb => qc w hb⟩
    have q := fc w hb
    rw [f1] at q
    exact q
  | some a =>
    right
    rw [e] at f1 qc
    have f3 := f2 a e
    refine ⟨(Re.findR L (x : Int)).1, fun w hb => ?_, fun w hb => ?_⟩
    · have q := fc w hb
      rw [f1] at q
      exact q
    · have q := qc w hb
      subst f3
      exact q
/-- and their number -/
theorem AlS.ends (h : AlS m root X w2 n Y s tab lf L p c W) : ∃ N : Nat, Hid (∀ w : World, Below W.heap.size W w → Calls Tryd.prog 16 #[pv m 0, .int .i64 root] w fun e w' => ∃ (pf : Option Addr) (cf : Nat), e = .returned (.slice pf N cf) ∧ Below w.heap.size w w') ∧
    Hid (∀ w : World, Below W.heap.size W w → Calls Tryd.prog 17 #[.slice p L.length c, .agg #[.int .i64 0, .int .i64 40]] w fun e w' => e = .returned (.int .i64 (N : Int)) ∧ Below w.heap.size w w') := by
  have l64 := h.lw.len
  have e1 := pgs_cnt h.lw h.al
  have e2 := cnt_occ h.lw.can 0 40
  have ol := occ_le L 0 40
  refine ⟨occ L 0 40, fun w hb => ?_, fun w hb => ?_⟩
  · refine Calls.mono ((h.st.below hb).pages (by omega)) ?_
    rintro e w' ⟨pf, n, cf, he, hl⟩
    have e3 := hl.len
    rw [e1] at e3
    subst e3
    exact ⟨pf, cf, he, hl.bel⟩
  · have q := Re.count_any 0 p c L (by omega) (Re.good_num h.lw.good) 0 40 w (h.is.below hb)
    have e4 : Re.cntR 0 40 L = (occ L 0 40 : Nat) := e2
    rw [e4] at q
    exact q
end
end Go.Proofs.YtkiclbnbnjbcaabDoor.Tt
