/- Containers: what holds behind any calls. -/
import Derived.Test.YtpfcpmhpekidkaaQ6
namespace Go.Proofs.Ytpfcpmhpekidkaa.Qu
open Go.ChangeShapes Go.WideShapes Go.ChangeAt Go.RowKit Go.Maps
set_option linter.unusedSimpArgs false
set_option linter.unusedVariables false

/-- a sum -/
def sm (f : Nat → Int) : Nat → Int
  | 0 => 0
  | n + 1 => sm f n + f n
theorem sm_congr {f g : Nat → Int} : ∀ n, (∀ j, j < n → f j = g j) → sm f n = sm g n
  | 0, _ => rfl
  | n + 1, h => by rw [sm, sm, sm_congr n (fun j hj => h j (by omega)), h n (by omega)]
theorem sm_nonneg {f : Nat → Int} : ∀ n, (∀ j, j < n → 0 ≤ f j) → 0 ≤ sm f n
  | 0, _ => Int.le_refl _
  | n + 1, h => by
    have := sm_nonneg n (fun j hj => h j (by omega))
    have := h n (by omega)
    rw [sm]; omega
theorem sm_le {f g : Nat → Int} : ∀ n, (∀ j, j < n → f j ≤ g j) → sm f n ≤ sm g n
  | 0, _ => Int.le_refl _
  | n + 1, h => by
    have := sm_le n (fun j hj => h j (by omega))
    have := h n (by omega)
    rw [sm, sm]; omega
theorem sm_zero {f : Nat → Int} : ∀ n, (∀ j, j < n → f j = 0) → sm f n = 0
  | 0, _ => rfl
  | n + 1, h => by rw [sm, sm_zero n (fun j hj => h j (by omega)), h n (by omega)]; rfl
/-- one place changes -/
theorem sm_upd {f g : Nat → Int} (i : Nat) : ∀ n, i < n → (∀ j, j < n → j ≠ i → f j = g j) → sm f n = sm g n + f i - g i
  | 0, h, _ => absurd h (Nat.not_lt_zero _)
  | n + 1, h, e => by
    rw [sm, sm]
    by_cases c : i = n
    · subst c
      rw [sm_congr i (fun j hj => e j (by omega) (by omega))]; omega
    · rw [sm_upd i n (by omega) (fun j hj => e j (by omega)), e n (by omega) (fun a => c a.symm)]; omega
theorem sm_add (f g : Nat → Int) : ∀ n, sm (fun j => f j + g j) n = sm f n + sm g n
  | 0 => rfl
  | n + 1 => by rw [sm, sm, sm, sm_add f g n]; omega
theorem sm_sub (f g : Nat → Int) : ∀ n, sm (fun j => f j - g j) n = sm f n - sm g n
  | 0 => rfl
  | n + 1 => by rw [sm, sm, sm, sm_sub f g n]; omega
theorem sm_swap (g : Nat → Nat → Int) (n : Nat) : ∀ m, sm (fun k => sm (fun j => g k j) n) m = sm (fun j => sm (fun k => g k j) m) n
  | 0 => (sm_zero n (fun _ _ => rfl)).symm
  | m + 1 => by
    rw [sm, sm_swap g n m, ← sm_add]
    exact sm_congr n (fun j _ => rfl)
/-- what a container's children may have -/
def part (l : Nd) (i : Int) : Int := if (l.live && (l.par == i)) = true then l.quota else 0
def lentOf (T : Nat → Nd) (i : Int) : Int := sm (fun j => part (T j) i) 64
theorem part_yes {l : Nd} {i : Int} (h1 : l.live = true) (h2 : l.par = i) : part l i = l.quota := by unfold part; rw [if_pos (by simp [h1, h2])]
theorem part_dead {l : Nd} {i : Int} (h1 : l.live = false) : part l i = 0 := by unfold part; rw [if_neg (by simp [h1])]
theorem part_no {l : Nd} {i : Int} (h2 : l.par ≠ i) : part l i = 0 := by unfold part; rw [if_neg (by simp [h2])]
theorem part_same {l m : Nd} {i : Int} (h1 : l.live = m.live) (h2 : l.par = m.par) (h3 : l.quota = m.quota) : part l i = part m i := by unfold part; rw [h1, h2, h3]
structure Good (T : Nat → Nd) (root : Int) : Prop where
  live0 : (T 0).live = true
  par0 : (T 0).par = -1
  quota0 : (T 0).quota = root
  rb0 : 0 ≤ root
  rb1 : root ≤ 1048576
  nn : ∀ k, k < 64 → 0 ≤ (T k).quota ∧ 0 ≤ (T k).used ∧ 0 ≤ (T k).lent ∧ (T k).used + (T k).lent ≤ (T k).quota ∧ (T k).quota ≤ root
  dead : ∀ k, k < 64 → (T k).live = false → T k = Nd.zero
  par : ∀ k, k < 64 → k ≠ 0 → (T k).live = true → ∃ p : Nat, (T k).par = p ∧ p < 64 ∧ (T p).live = true
  lent : ∀ k, k < 64 → (T k).lent = lentOf T k
  rank : ∃ d : Nat → Nat, ∀ k, k < 64 → k ≠ 0 → (T k).live = true → d (T k).par.toNat < d k
theorem Good.okT {T : Nat → Nd} {root : Int} (g : Good T root) : OkT T := fun k hk => by
  have := g.nn k hk
  have := g.rb1
  unfold Nd.ok
  omega
theorem Good.parT {T : Nat → Nd} {root : Int} (g : Good T root) : ParT T := fun k hk h0 hl => by
  obtain ⟨p, h1, h2, _⟩ := g.par k hk h0 hl
  exact ⟨p, h1, h2⟩
theorem root_good (q : Int) (h0 : 0 ≤ q) (h1 : q ≤ 1048576) : Good (rootT q) q := by
  have o : ∀ k, k ≠ 0 → rootT q k = Nd.zero := fun k hk => put_other _ _ _ _ hk
  have z : rootT q 0 = ⟨-1, q, 0, 0, true⟩ := put_same _ _ _
  refine ⟨by rw [z], by rw [z], by rw [z], h0, h1, ?_, ?_, ?_, ?_, ⟨fun _ => 0, ?_⟩⟩
  · intro k hk
    by_cases c : k = 0
    · subst c; rw [z]; simp; try omega
    · rw [o k c]; simp [Nd.zero]; try omega
  · intro k hk hl
    by_cases c : k = 0
    · subst c; rw [z] at hl; simp at hl
    · exact o k c
  · intro k hk c hl; rw [o k c] at hl; simp [Nd.zero] at hl
  · intro k hk
    have : lentOf (rootT q) k = 0 := sm_zero 64 (fun j hj => by
      by_cases c : j = 0
      · subst c; rw [z]; exact part_no (by simp; try omega)
      · rw [o j c]; exact part_dead rfl)
    rw [this]
    by_cases c : k = 0
    · subst c; rw [z]
    · rw [o k c]; rfl
  · intro k hk c hl; rw [o k c] at hl; simp [Nd.zero] at hl
/-- what is used changes -/
theorem Good.used {T : Nat → Nd} {root : Int} (g : Good T root) (k : Nat) (hk : k < 64) (hl : (T k).live = true) (n : Int) (h1 : 0 ≤ (T k).used + n) (h2 : (T k).used + n + (T k).lent ≤ (T k).quota) : Good (putT T k ((T k).plus n)) root := by
  have e : ∀ j, (putT T k ((T k).plus n) j).live = (T j).live ∧ (putT T k ((T k).plus n) j).par = (T j).par ∧ (putT T k ((T k).plus n) j).quota = (T j).quota ∧ (putT T k ((T k).plus n) j).lent = (T j).lent := fun j => by
    by_cases c : j = k
    · subst c; rw [put_same]; exact ⟨rfl, rfl, rfl, rfl⟩
    · rw [put_other _ _ _ _ c]; exact ⟨rfl, rfl, rfl, rfl⟩
  have el : ∀ i, lentOf (putT T k ((T k).plus n)) i = lentOf T i := fun i => sm_congr 64 (fun j _ => part_same (e j).1 (e j).2.1 (e j).2.2.1)
  refine ⟨by rw [(e 0).1]; exact g.live0, by rw [(e 0).2.1]; exact g.par0, by rw [(e 0).2.2.1]; exact g.quota0, g.rb0, g.rb1, ?_, ?_, ?_, ?_, ?_⟩
  · intro j hj
    have := g.nn j hj
    by_cases c : j = k
    · subst c; rw [put_same]
      refine ⟨this.1, h1, this.2.2.1, h2, this.2.2.2.2⟩
    · rw [put_other _ _ _ _ c]; exact this
  · intro j hj h
    rw [(e j).1] at h
    by_cases c : j = k
    · subst c; rw [hl] at h; simp at h
    · rw [put_other _ _ _ _ c]; exact g.dead j hj h
  · intro j hj h0 h
    rw [(e j).1] at h
    obtain ⟨p, a, b, c⟩ := g.par j hj h0 h
    exact ⟨p, by rw [(e j).2.1]; exact a, b, by rw [(e p).1]; exact c⟩
  · intro j hj
    rw [(e j).2.2.2, el]; exact g.lent j hj
  · obtain ⟨d, hd⟩ := g.rank
    exact ⟨d, fun j hj h0 h => by rw [(e j).2.1]; rw [(e j).1] at h; exact hd j hj h0 h⟩
theorem Good.charge {T : Nat → Nd} {root : Int} (g : Good T root) (i n : Int) : Good (chargeT T i n) root := by
  unfold chargeT
  by_cases c : mayN T i n = 0
  · rw [if_pos c]
    obtain ⟨m1, m2, m3⟩ := may_zero c
    obtain ⟨k, rfl, hk, hg⟩ := live_in m1
    rw [hg] at m1 m3
    rw [Int.toNat_natCast]
    have := g.nn k hk
    unfold Nd.room at m3
    exact g.used k hk m1 n (by omega) (by omega)
  · rw [if_neg c]; exact g
theorem Good.credit {T : Nat → Nd} {root : Int} (g : Good T root) (i n : Int) : Good (creditT T i n) root := by
  unfold creditT
  by_cases c : creditN T i n = 0
  · rw [if_pos c]
    obtain ⟨m1, m2, m3⟩ := credit_zero c
    obtain ⟨k, rfl, hk, hg⟩ := live_in m1
    rw [hg] at m1 m3
    rw [Int.toNat_natCast]
    have := g.nn k hk
    exact g.used k hk m1 (-n) (by omega) (by omega)
  · rw [if_neg c]; exact g
theorem child_zero {T : Nat → Nd} {p q : Int} (h : childN T p q = 0) : mayN T p q = 0 ∧ ∃ r : Nat, r < 64 ∧ freeN T = r ∧ (T r).live = false := by
  unfold childN at h
  by_cases c : mayN T p q = 0
  · rw [if_pos c] at h
    refine ⟨c, ?_⟩
    rcases idx_is T (fun l => !l.live) with ⟨r, a1, a2, a3, _⟩ | ⟨a1, _⟩
    · exact ⟨r, a1, a2, by simpa using a3⟩
    · have a1' : freeN T = -1 := a1
      rw [a1', if_pos (by omega)] at h; omega
  · rw [if_neg c] at h; exact absurd h c
theorem Good.child {T : Nat → Nd} {root : Int} (g : Good T root) (p q : Int) : Good (childT T p q) root := by
  unfold childT
  by_cases c : childN T p q = 0
  rotate_left
  · rw [if_neg c]; exact g
  rw [if_pos c]
  obtain ⟨c1, r, hr6, hr, hrl⟩ := child_zero c
  obtain ⟨m1, m2, m3⟩ := may_zero c1
  obtain ⟨k, rfl, hk, hg⟩ := live_in m1
  rw [hg] at m1 m3
  rw [hr, Int.toNat_natCast, Int.toNat_natCast]
  have hkr : k ≠ r := fun e => by subst e; rw [m1] at hrl; simp at hrl
  have hr0 : r ≠ 0 := fun e => by subst e; rw [g.live0] at hrl; simp at hrl
  have zr := g.dead r hr6 hrl
  obtain ⟨T', hT'⟩ : ∃ T', T' = putT (putT T r (Nd.new k q)) k ((T k).lend q) := ⟨_, rfl⟩
  rw [← hT']
  have ek : T' k = (T k).lend q := by rw [hT', put_same]
  have er : T' r = Nd.new k q := by rw [hT', put_other _ _ _ _ (fun e => hkr e.symm), put_same]
  have eo : ∀ j, j ≠ k → j ≠ r → T' j = T j := fun j a b => by rw [hT', put_other _ _ _ _ a, put_other _ _ _ _ b]
  have e3 : ∀ j, j ≠ r → (T' j).live = (T j).live ∧ (T' j).par = (T j).par ∧ (T' j).quota = (T j).quota ∧ (T' j).used = (T j).used := fun j a => by
    by_cases b : j = k
    · subst b; rw [ek]; exact ⟨rfl, rfl, rfl, rfl⟩
    · rw [eo j b a]; exact ⟨rfl, rfl, rfl, rfl⟩
  have gk := g.nn k hk
  unfold Nd.room at m3
  have el : ∀ i : Nat, lentOf T' i = lentOf T i + (if i = k then q else 0) := fun i => by
    have h1 := sm_upd (f := fun j => part (T' j) i) (g := fun j => part (T j) i) r 64 hr6 (fun j _ a => part_same (e3 j a).1 (e3 j a).2.1 (e3 j a).2.2.1)
    have h2 : part (T r) i = 0 := part_dead hrl
    have h3 : part (T' r) (i : Int) = if i = k then q else 0 := by
      rw [er]
      by_cases b : i = k
      · rw [if_pos b]; exact part_yes rfl (by subst b; rfl)
      · rw [if_neg b]; exact part_no (by show (k : Int) ≠ i; omega)
    show sm (fun j => part (T' j) i) 64 = _
    rw [h1]
    try simp only
    rw [h2, h3]
    show lentOf T i + _ - 0 = _
    omega
  refine ⟨by rw [(e3 0 (fun e => hr0 e.symm)).1]; exact g.live0, by rw [(e3 0 (fun e => hr0 e.symm)).2.1]; exact g.par0, by rw [(e3 0 (fun e => hr0 e.symm)).2.2.1]; exact g.quota0, g.rb0, g.rb1, ?_, ?_, ?_, ?_, ?_⟩
  · intro j hj
    by_cases a : j = r
    · subst a; rw [er]; unfold Nd.new; simp only; omega
    · by_cases b : j = k
      · subst b; rw [ek]; unfold Nd.lend; simp only; omega
      · rw [eo j b a]; exact g.nn j hj
  · intro j hj h
    by_cases a : j = r
    · subst a; rw [er] at h; simp [Nd.new] at h
    · rw [(e3 j a).1] at h
      by_cases b : j = k
      · subst b; rw [m1] at h; simp at h
      · rw [eo j b a]; exact g.dead j hj h
  · intro j hj h0 h
    by_cases a : j = r
    · subst a
      exact ⟨k, by rw [er]; rfl, hk, by rw [(e3 k hkr).1]; exact m1⟩
    · rw [(e3 j a).1] at h
      obtain ⟨p, x, y, z⟩ := g.par j hj h0 h
      have pr : p ≠ r := fun e => by subst e; rw [z] at hrl; simp at hrl
      exact ⟨p, by rw [(e3 j a).2.1]; exact x, y, by rw [(e3 p pr).1]; exact z⟩
  · intro j hj
    rw [el j]
    by_cases a : j = r
    · subst a
      have := g.lent j hj
      rw [zr] at this
      rw [er, ← this, if_neg (fun e => hkr e.symm)]; rfl
    · by_cases b : j = k
      · subst b; rw [ek, if_pos rfl, ← g.lent j hj]; rfl
      · rw [eo j b a, if_neg b, g.lent j hj]; omega
  · obtain ⟨d, hd⟩ := g.rank
    refine ⟨fun j => if j = r then d k + 1 else d j, fun j hj h0 h => ?_⟩
    by_cases a : j = r
    · subst a
      rw [er]
      show (if (Nd.new k q).par.toNat = j then d k + 1 else d (Nd.new k q).par.toNat) < if j = j then d k + 1 else d j
      have : (Nd.new k q).par.toNat = k := Int.toNat_natCast k
      rw [this, if_pos rfl, if_neg hkr]; omega
    · rw [(e3 j a).1] at h
      obtain ⟨p, x, y, z⟩ := g.par j hj h0 h
      have pr : p ≠ r := fun e => by subst e; rw [z] at hrl; simp at hrl
      have := hd j hj h0 h
      rw [(e3 j a).2.1]
      rw [x, Int.toNat_natCast] at this ⊢
      simp only [if_neg pr, if_neg a]; exact this
theorem has_iff (T : Nat → Nd) (i : Int) : hasN T i = true ↔ ∃ j, j < 64 ∧ (T j).live = true ∧ (T j).par = i := by
  unfold hasN
  rcases idx_is T (fun l => l.live && (l.par == i)) with ⟨r, a1, a2, a3, _⟩ | ⟨a1, a2⟩
  · rw [a2]
    simp only [Bool.and_eq_true, beq_iff_eq] at a3
    exact ⟨fun _ => ⟨r, a1, a3.1, a3.2⟩, fun _ => by simp⟩
  · rw [a1]
    constructor
    · intro h; simp at h
    · rintro ⟨j, b1, b2, b3⟩
      have := a2 j b1
      simp [b2, b3] at this
theorem end_zero {T : Nat → Nd} {i : Int} (h : endN T i = 0) : (getN T i).live = true ∧ i ≠ 0 ∧ ¬ 0 < (getN T i).used ∧ hasN T i = false := by
  unfold endN at h
  by_cases a : (getN T i).live = false ∨ i = 0
  · rw [if_pos a] at h; omega
  · rw [if_neg a] at h
    by_cases c : 0 < (getN T i).used ∨ hasN T i = true
    · rw [if_pos c] at h; omega
    · exact ⟨by simpa using fun e => a (Or.inl e), fun e => a (Or.inr e), fun e => c (Or.inl e), by simpa using fun e => c (Or.inr e)⟩
theorem Good.ends {T : Nat → Nd} {root : Int} (g : Good T root) (i : Int) : Good (endT T i) root := by
  unfold endT
  by_cases c : endN T i = 0
  rotate_left
  · rw [if_neg c]; exact g
  rw [if_pos c]
  obtain ⟨m1, m2, m3, m4⟩ := end_zero c
  obtain ⟨k, rfl, hk, hg⟩ := live_in m1
  rw [hg] at m1 m3
  rw [Int.toNat_natCast]
  have hk0 : k ≠ 0 := by omega
  obtain ⟨p, hp, hp6, hpl⟩ := g.par k hk hk0 m1
  rw [hp, Int.toNat_natCast]
  have hno : ∀ j, j < 64 → (T j).live = true → (T j).par ≠ k := fun j hj hl e => by
    have := (has_iff T k).2 ⟨j, hj, hl, e⟩
    rw [m4] at this; simp at this
  have hpk : p ≠ k := fun e => hno k hk m1 (by rw [hp, e])
  obtain ⟨T', hT'⟩ : ∃ T', T' = putT (putT T p ((T p).lend (-(T k).quota))) k Nd.zero := ⟨_, rfl⟩
  rw [← hT']
  have ek : T' k = Nd.zero := by rw [hT', put_same]
  have ep : T' p = (T p).lend (-(T k).quota) := by rw [hT', put_other _ _ _ _ hpk, put_same]
  have eo : ∀ j, j ≠ k → j ≠ p → T' j = T j := fun j a b => by rw [hT', put_other _ _ _ _ a, put_other _ _ _ _ b]
  have e3 : ∀ j, j ≠ k → (T' j).live = (T j).live ∧ (T' j).par = (T j).par ∧ (T' j).quota = (T j).quota ∧ (T' j).used = (T j).used := fun j a => by
    by_cases b : j = p
    · subst b; rw [ep]; exact ⟨rfl, rfl, rfl, rfl⟩
    · rw [eo j a b]; exact ⟨rfl, rfl, rfl, rfl⟩
  have el : ∀ i : Nat, lentOf T' i = lentOf T i - (if i = p then (T k).quota else 0) := fun i => by
    have h1 := sm_upd (f := fun j => part (T' j) i) (g := fun j => part (T j) i) k 64 hk (fun j _ a => part_same (e3 j a).1 (e3 j a).2.1 (e3 j a).2.2.1)
    have h2 : part (T' k) i = 0 := by rw [ek]; exact part_dead rfl
    have h3 : part (T k) (i : Int) = if i = p then (T k).quota else 0 := by
      by_cases b : i = p
      · rw [if_pos b]; exact part_yes m1 (by rw [hp, b])
      · rw [if_neg b]; exact part_no (by rw [hp]; omega)
    show sm (fun j => part (T' j) i) 64 = _
    rw [h1]
    try simp only
    rw [h2, h3]
    show lentOf T i + 0 - _ = _
    omega
  have zk : lentOf T k = 0 := sm_zero 64 (fun j hj => by
    by_cases a : (T j).live = true
    · exact part_no (hno j hj a)
    · exact part_dead (by simpa using a))
  have pos : 0 ≤ lentOf T' p := sm_nonneg 64 (fun j hj => by
    show 0 ≤ part (T' j) p
    unfold part
    by_cases a : ((T' j).live && ((T' j).par == (p : Int))) = true
    · rw [if_pos a]
      by_cases b : j = k
      · subst b; rw [ek]; simp [Nd.zero]
      · rw [(e3 j b).2.2.1]; exact (g.nn j hj).1
    · rw [if_neg a]; omega)
  rw [el p, if_pos rfl, ← g.lent p hp6] at pos
  have gk := g.nn k hk
  have gp := g.nn p hp6
  refine ⟨by rw [(e3 0 (fun e => hk0 e.symm)).1]; exact g.live0, by rw [(e3 0 (fun e => hk0 e.symm)).2.1]; exact g.par0, by rw [(e3 0 (fun e => hk0 e.symm)).2.2.1]; exact g.quota0, g.rb0, g.rb1, ?_, ?_, ?_, ?_, ?_⟩
  · intro j hj
    by_cases a : j = k
    · subst a; rw [ek]; have := g.rb0; simp [Nd.zero]; try omega
    · by_cases b : j = p
      · subst b; rw [ep]; unfold Nd.lend; simp only; omega
      · rw [eo j a b]; exact g.nn j hj
  · intro j hj h
    by_cases a : j = k
    · subst a; exact ek
    · rw [(e3 j a).1] at h
      by_cases b : j = p
      · subst b; rw [hpl] at h; simp at h
      · rw [eo j a b]; exact g.dead j hj h
  · intro j hj h0 h
    by_cases a : j = k
    · subst a; rw [ek] at h; simp [Nd.zero] at h
    · rw [(e3 j a).1] at h
      obtain ⟨p', x, y, z⟩ := g.par j hj h0 h
      have pk : p' ≠ k := fun e => hno j hj h (by rw [x, e])
      exact ⟨p', by rw [(e3 j a).2.1]; exact x, y, by rw [(e3 p' pk).1]; exact z⟩
  · intro j hj
    rw [el j]
    by_cases a : j = k
    · subst a
      rw [ek, zk, if_neg (fun e => hpk e.symm)]; rfl
    · by_cases b : j = p
      · subst b; rw [ep, if_pos rfl, ← g.lent j hj]; rfl
      · rw [eo j a b, if_neg b, g.lent j hj]; omega
  · obtain ⟨d, hd⟩ := g.rank
    refine ⟨d, fun j hj h0 h => ?_⟩
    by_cases a : j = k
    · subst a; rw [ek] at h; simp [Nd.zero] at h
    · rw [(e3 j a).1] at h
      rw [(e3 j a).2.1]; exact hd j hj h0 h
/-- all that is had is at most what the root may have -/
theorem Good.all_used {T : Nat → Nd} {root : Int} (g : Good T root) : sm (fun k => (T k).used) 64 ≤ root := by
  have h1 : sm (fun k => (T k).used) 64 ≤ sm (fun k => (T k).quota - lentOf T k) 64 := sm_le 64 (fun k hk => by
    have := g.nn k hk
    have := g.lent k hk
    omega)
  rw [sm_sub] at h1
  have h2 : sm (fun k : Nat => lentOf T k) 64 = sm (fun j => sm (fun k : Nat => part (T j) k) 64) 64 := sm_swap (fun k j => part (T j) k) 64 64
  have h3 : sm (fun j => sm (fun k : Nat => part (T j) k) 64) 64 = sm (fun j => (T j).quota) 64 - root := by
    have e : ∀ j, j < 64 → j ≠ 0 → sm (fun k : Nat => part (T j) k) 64 = (T j).quota := fun j hj h0 => by
      by_cases a : (T j).live = true
      · obtain ⟨p, x, y, z⟩ := g.par j hj h0 a
        have := sm_upd (f := fun k : Nat => part (T j) k) (g := fun _ => 0) p 64 y (fun k _ b => part_no (by rw [x]; omega))
        rw [this, sm_zero 64 (fun _ _ => rfl)]
        try simp only
        rw [part_yes a x]; omega
      · have a' : (T j).live = false := by simpa using a
        rw [sm_zero 64 (fun k _ => part_dead a'), g.dead j hj a']; rfl
    have e0 : sm (fun k : Nat => part (T 0) k) 64 = 0 := sm_zero 64 (fun k _ => part_no (by rw [g.par0]; omega))
    have := sm_upd (f := fun j => sm (fun k : Nat => part (T j) k) 64) (g := fun j => (T j).quota) 0 64 (by omega) e
    rw [this]
    try simp only
    rw [e0, g.quota0]; omega
  rw [h2, h3] at h1
  omega
end Go.Proofs.Ytpfcpmhpekidkaa.Qu
