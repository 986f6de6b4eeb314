/- Containers: the document's End and Child are the program's. -/
import Derived.Test.YtebmnnliaeollaaQ17
namespace Go.Proofs.Ytebmnnliaeollaa
open Go.ChangeShapes Go.WideShapes Go.ChangeAt Go.RowKit Go.Maps
set_option linter.unusedSimpArgs false
set_option linter.unusedVariables false

theorem mem_box (T : Nat → Nd) (n : Nat) (b : Bx) : b ∈ boxN T n ↔ ∃ j, (j < n ∧ (T j).live = true) ∧ bx T j = b := by
  unfold boxN
  rw [List.mem_map]
  constructor
  · rintro ⟨j, h1, h2⟩; exact ⟨j, (mem_live T j n).1 h1, h2⟩
  · rintro ⟨j, h1, h2⟩; exact ⟨j, (mem_live T j n).2 h1, h2⟩
theorem any_box (T : Nat → Nd) (i : Int) : (boxN T 64).any (fun b => b.par == i) = hasN T i := by
  have h : (boxN T 64).any (fun b => b.par == i) = true ↔ hasN T i = true := by
    rw [List.any_eq_true, has_iff]
    constructor
    · rintro ⟨b, h1, h2⟩
      obtain ⟨j, h3, rfl⟩ := (mem_box T 64 b).1 h1
      exact ⟨j, h3.1, h3.2, by simpa [bx] using h2⟩
    · rintro ⟨j, h1, h2, h3⟩
      exact ⟨bx T j, (mem_box T 64 _).2 ⟨j, ⟨h1, h2⟩, rfl⟩, by simp [bx, h3]⟩
  cases a : (boxN T 64).any (fun b => b.par == i) <;> cases c : hasN T i
  · rfl
  · rw [a, c] at h; simp at h
  · rw [a, c] at h; simp at h
  · rfl
theorem end_box {T : Nat → Nd} {root : Int} (g : Good T root) (i : Int) : endE (boxN T 64) i = endN T i := by
  unfold endE endN
  rw [(find_get g i).1, (find_get g i).2.2, any_box]
  by_cases a : (getN T i).live = false ∨ i = 0
  · rw [if_pos a, if_pos a]
  · rw [if_neg a, if_neg a]
    by_cases b : hasN T i = true
    · rw [if_pos b, if_pos (Or.inr b)]
    · rw [if_neg b]
      by_cases c : 0 < (getN T i).used
      · rw [if_pos c, if_pos (Or.inl c)]
      · rw [if_neg c, if_neg (fun q => q.elim c b)]
theorem fil_box (T T' : Nat → Nd) (k : Nat) (hk : (T' k).live = false) (ho : ∀ j, j ≠ k → (T' j).live = (T j).live ∧ bx T' j = bx T j) : ∀ m, (boxN T m).filter (notN k) = boxN T' m
  | 0 => rfl
  | m + 1 => by
    by_cases c : m = k
    · subst c
      rw [box_no T' m hk, ← fil_box T T' m hk ho m]
      by_cases hl : (T m).live = true
      · rw [box_yes T m hl, List.filter_append]
        have : [bx T m].filter (notN m) = [] := by unfold notN bx; simp
        rw [this, List.append_nil]
      · rw [box_no T m (by simpa using hl)]
    · obtain ⟨h1, h2⟩ := ho m c
      by_cases hl : (T m).live = true
      · rw [box_yes T m hl, box_yes T' m (by rw [h1]; exact hl), List.filter_append, fil_box T T' k hk ho m, h2]
        have : [bx T m].filter (notN k) = [bx T m] := by
          have hn : ¬ ((m : Int) = (k : Int)) := by omega
          unfold notN bx; simp [hn]
        rw [this]
      · have hl' : (T m).live = false := by simpa using hl
        rw [box_no T m hl', box_no T' m (by rw [h1]; exact hl')]; exact fil_box T T' k hk ho m
theorem end_list {T : Nat → Nd} {root : Int} (g : Good T root) (i : Int) (h : endN T i = 0) : (boxN T 64).filter (notN i) = boxN (endT T i) 64 := by
  obtain ⟨m1, m2, m3, m4⟩ := end_zero h
  obtain ⟨k, rfl, hk, hg⟩ := live_in m1
  have e : endT T k = putT (putT T (T k).par.toNat ((T (T k).par.toNat).lend (-(T k).quota))) k Nd.zero := by unfold endT; rw [if_pos h, Int.toNat_natCast]
  rw [e]
  generalize (T k).par.toNat = p
  refine fil_box T _ k (by rw [put_same]; rfl) (fun j hj => ?_) 64
  rw [put_other _ _ _ _ hj]
  unfold bx
  by_cases c : j = p
  · subst c; rw [put_other _ _ _ _ hj, put_same]; exact ⟨rfl, rfl⟩
  · rw [put_other _ _ _ _ hj, put_other _ _ _ _ c]; exact ⟨rfl, rfl⟩
/-- all places below r are taken -/
theorem live_low (T : Nat → Nd) (r : Nat) (h : ∀ j, j < r → (T j).live = true) : ∀ m, m ≤ r → (liveL T m).length = m
  | 0, _ => rfl
  | m + 1, hm => by rw [live_yes T m (h m (by omega)), List.length_append, live_low T r h m (by omega)]; rfl
theorem live_mono (T : Nat → Nd) (m : Nat) : ∀ n, m ≤ n → (liveL T m).length ≤ (liveL T n).length
  | 0, h => by have : m = 0 := by omega
               subst this; exact Nat.le_refl _
  | n + 1, h => by
    by_cases c : m = n + 1
    · subst c; exact Nat.le_refl _
    · have := live_mono T m n (by omega)
      rw [liveL, List.length_append]; omega
theorem num_box (T : Nat → Nd) (r : Nat) (hr : r < 64) (hl : (T r).live = false) (h : ∀ j, j < r → (T j).live = true) : ∀ (k z : Nat), z ≤ r → r ≤ k + z → numB (boxN T 64) k z = r
  | 0, z, h1, h2 => by
    have : z = r := by omega
    subst this; rfl
  | k + 1, z, h1, h2 => by
    by_cases c : z = r
    · subst c
      have e : (findB (boxN T 64) (z : Int)).2 = false := by
        rw [find_box T z 64, if_neg (fun q => by have := q.2; rw [Int.toNat_natCast, hl] at this; simp at this)]
      rw [numB, if_neg (by rw [e]; simp)]
      exact num_box T z hr hl h k z (Nat.le_refl _) (by omega)
    · have e : (findB (boxN T 64) (z : Int)).2 = true := by
        rw [find_box T z 64, if_pos ⟨by omega, by rw [Int.toNat_natCast]; exact h z (by omega)⟩]
      rw [numB, if_pos e]
      have := num_box T r hr hl h k (z + 1) (by omega) (by omega)
      rw [← this]; congr 1
theorem free_cases (T : Nat → Nd) : (∃ r : Nat, r < 64 ∧ freeN T = r ∧ (T r).live = false ∧ ∀ j, j < r → (T j).live = true) ∨ (freeN T = -1 ∧ ∀ j, j < 64 → (T j).live = true) := by
  rcases idx_is T (fun l => !l.live) with ⟨r, a1, a2, a3, a4⟩ | ⟨a1, a2⟩
  · exact Or.inl ⟨r, a1, a2, by simpa using a3, fun j hj => by simpa using a4 j hj⟩
  · exact Or.inr ⟨a1, fun j hj => by simpa using a2 j hj⟩
theorem full_len (T : Nat → Nd) (h : ∀ j, j < 64 → (T j).live = true) : (boxN T 64).length = 64 := by rw [box_len]; exact live_low T 64 h 64 (Nat.le_refl _)
theorem free_len (T : Nat → Nd) (r : Nat) (hr : r < 64) (hl : (T r).live = false) : (boxN T 64).length ≤ 63 := by
  have h1 := live_count T 64
  have h2 : sm (one T) 64 ≤ sm (fun j => if j = r then 0 else 1) 64 := sm_le 64 (fun j _ => by
    by_cases c : j = r
    · subst c; rw [if_pos rfl]; unfold one; rw [hl]; simp
    · rw [if_neg c]; exact one_le T j)
  have h3 := sm_upd (f := fun j => if j = r then (0 : Int) else 1) (g := fun _ => 1) r 64 hr (fun j _ c => by rw [if_neg c])
  have e : sm (fun _ => (1 : Int)) 64 = 64 := by decide
  simp only [if_true] at h3
  rw [box_len]; omega
theorem low_box (T T' : Nat → Nd) (r : Nat) (h : ∀ j, j < r → (T' j).live = (T j).live ∧ bx T' j = bx T j) : ∀ m, m ≤ r → boxN T' m = boxN T m ∧ (boxN T m).filter (ltN r) = boxN T m ∧ (boxN T m).filter (gtN r) = []
  | 0, _ => ⟨rfl, rfl, rfl⟩
  | m + 1, hm => by
    obtain ⟨i1, i2, i3⟩ := low_box T T' r h m (by omega)
    obtain ⟨h1, h2⟩ := h m (by omega)
    by_cases hl : (T m).live = true
    · have a : [bx T m].filter (ltN r) = [bx T m] := by
        have : (m : Int) < (r : Int) := by omega
        unfold ltN bx; simp [this]
      have b : [bx T m].filter (gtN r) = [] := by
        have : ¬ ((r : Int) < (m : Int)) := by omega
        unfold gtN bx; simp [this]
      rw [box_yes T m hl, box_yes T' m (by rw [h1]; exact hl), i1, h2, List.filter_append, List.filter_append, i2, i3, a, b]
      exact ⟨rfl, rfl, rfl⟩
    · have hl' : (T m).live = false := by simpa using hl
      rw [box_no T m hl', box_no T' m (by rw [h1]; exact hl')]; exact ⟨i1, i2, i3⟩
theorem ins_box (T T' : Nat → Nd) (r : Nat) (hr : (T r).live = false) (hr' : (T' r).live = true) (h : ∀ j, j ≠ r → (T' j).live = (T j).live ∧ bx T' j = bx T j) : ∀ d, (boxN T (r + 1 + d)).filter (ltN r) = boxN T r ∧ boxN T' (r + 1 + d) = boxN T r ++ [bx T' r] ++ (boxN T (r + 1 + d)).filter (gtN r)
  | 0 => by
    obtain ⟨i1, i2, i3⟩ := low_box T T' r (fun j hj => h j (by omega)) r (Nat.le_refl _)
    rw [Nat.add_zero, box_no T r hr, box_yes T' r hr', i1, i2, i3, List.append_nil]
    exact ⟨rfl, rfl⟩
  | d + 1 => by
    obtain ⟨i1, i2⟩ := ins_box T T' r hr hr' h d
    obtain ⟨h1, h2⟩ := h (r + 1 + d) (by omega)
    rw [show r + 1 + (d + 1) = (r + 1 + d) + 1 by omega]
    by_cases hl : (T (r + 1 + d)).live = true
    · have a : [bx T (r + 1 + d)].filter (ltN r) = [] := by
        have : ¬ (((r + 1 + d : Nat) : Int) < (r : Int)) := by omega
        unfold ltN bx; rw [List.filter_cons_of_neg (by simpa using this)]; rfl
      have b : [bx T (r + 1 + d)].filter (gtN r) = [bx T (r + 1 + d)] := by
        have : (r : Int) < ((r + 1 + d : Nat) : Int) := by omega
        unfold gtN bx; rw [List.filter_cons_of_pos (by simpa using this)]; rfl
      rw [box_yes T _ hl, box_yes T' _ (by rw [h1]; exact hl), i2, h2, List.filter_append, List.filter_append, i1, a, b, List.append_nil]
      exact ⟨rfl, by simp only [List.append_assoc]⟩
    · have hl' : (T (r + 1 + d)).live = false := by simpa using hl
      rw [box_no T _ hl', box_no T' _ (by rw [h1]; exact hl')]; exact ⟨i1, i2⟩
theorem child_list {T : Nat → Nd} {root : Int} (g : Good T root) (i q : Int) (h : childN T i q = 0) : insB (boxN T 64) (freeN T) ⟨freeN T, i, q, 0⟩ = boxN (childT T i q) 64 ∧ numB (boxN T 64) ((boxN T 64).length + 1) 0 = freeN T ∧ (boxN T 64).length ≤ 63 := by
  obtain ⟨c1, _⟩ := child_zero h
  rcases free_cases T with ⟨r, r6, er, rl, rlow⟩ | ⟨er, _⟩
  · obtain ⟨m1, m2, m3⟩ := may_zero c1
    obtain ⟨k, rfl, hk, hg⟩ := live_in m1
    rw [hg] at m1
    have hkr : k ≠ r := fun e => by subst e; rw [m1] at rl; simp at rl
    have e : childT T k q = putT (putT T r (Nd.new k q)) k ((T k).lend q) := by unfold childT; rw [if_pos h, er, Int.toNat_natCast, Int.toNat_natCast]
    have lr : r ≤ (boxN T 64).length := by
      rw [box_len]
      have h1 := live_low T r rlow r (Nat.le_refl _)
      have h2 := live_mono T r 64 (by omega)
      omega
    have er2 : (childT T k q r).live = true ∧ bx (childT T k q) r = ⟨r, k, q, 0⟩ := by
      rw [e]; unfold bx; rw [put_other _ _ _ _ (fun x => hkr x.symm), put_same]; exact ⟨rfl, rfl⟩
    have eo : ∀ j, j ≠ r → (childT T k q j).live = (T j).live ∧ bx (childT T k q) j = bx T j := fun j hj => by
      rw [e]; unfold bx
      by_cases c : j = k
      · subst c; rw [put_same]; exact ⟨rfl, rfl⟩
      · rw [put_other _ _ _ _ c, put_other _ _ _ _ hj]; exact ⟨rfl, rfl⟩
    obtain ⟨i1, i2⟩ := ins_box T (childT T k q) r rl er2.1 eo (63 - r)
    rw [show r + 1 + (63 - r) = 64 by omega] at i1 i2
    refine ⟨?_, ?_, free_len T r r6 rl⟩
    · rw [er]; unfold insB; rw [i1, i2, er2.2]
    · rw [er]; exact num_box T r r6 rl rlow _ 0 (Nat.zero_le _) (by omega)
  · exfalso
    unfold childN at h
    rw [if_pos c1, er, if_pos (by omega)] at h; omega
end Go.Proofs.Ytebmnnliaeollaa
