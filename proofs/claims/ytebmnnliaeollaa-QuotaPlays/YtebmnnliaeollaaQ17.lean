/- Containers: the live ones as the document's list. -/
import Derived.Test.YtebmnnliaeollaaQ16
namespace Go.Proofs.Ytebmnnliaeollaa
open Go.ChangeShapes Go.WideShapes Go.ChangeAt Go.RowKit Go.Maps
set_option linter.unusedSimpArgs false
set_option linter.unusedVariables false

def bx (T : Nat → Nd) (j : Nat) : Bx := ⟨j, (T j).par, (T j).quota, (T j).used⟩
def boxN (T : Nat → Nd) (n : Nat) : List Bx := (liveL T n).map (bx T)
theorem box_yes (T : Nat → Nd) (n : Nat) (h : (T n).live = true) : boxN T (n + 1) = boxN T n ++ [bx T n] := by unfold boxN; rw [live_yes T n h, List.map_append]; rfl
theorem box_no (T : Nat → Nd) (n : Nat) (h : (T n).live = false) : boxN T (n + 1) = boxN T n := by unfold boxN; rw [live_no T n h]
theorem box_len (T : Nat → Nd) (n : Nat) : (boxN T n).length = (liveL T n).length := by unfold boxN; rw [List.length_map]
theorem find_append (b : Bx) (i : Int) : ∀ l, findB (l ++ [b]) i = if (findB l i).2 = true then findB l i else if b.num = i then (b, true) else (Bx.zero, false)
  | [] => by simp [findB]
  | a :: l => by
    rw [List.cons_append, findB, findB]
    by_cases c : a.num = i
    · rw [if_pos c, if_pos c]; simp
    · rw [if_neg c, if_neg c]; exact find_append b i l
theorem find_box (T : Nat → Nd) (i : Int) : ∀ n : Nat, findB (boxN T n) i = if (0 ≤ i ∧ i < n) ∧ (T i.toNat).live = true then (bx T i.toNat, true) else (Bx.zero, false)
  | 0 => by rw [if_neg (by omega)]; rfl
  | n + 1 => by
    by_cases hl : (T n).live = true
    · rw [box_yes T n hl, find_append, find_box T i n]
      by_cases c : (0 ≤ i ∧ i < n) ∧ (T i.toNat).live = true
      · rw [if_pos c, if_pos rfl, if_pos ⟨by omega, c.2⟩]
      · rw [if_neg c, if_neg (by simp)]
        by_cases e : i = n
        · subst e
          rw [if_pos (by unfold bx; rfl), if_pos ⟨by omega, by rw [Int.toNat_natCast]; exact hl⟩, Int.toNat_natCast]
        · rw [if_neg (by unfold bx; exact fun q => e q.symm), if_neg (fun q => c ⟨by omega, q.2⟩)]
    · have hl' : (T n).live = false := by simpa using hl
      rw [box_no T n hl', find_box T i n]
      by_cases c : (0 ≤ i ∧ i < n) ∧ (T i.toNat).live = true
      · rw [if_pos c, if_pos ⟨by omega, c.2⟩]
      · rw [if_neg c, if_neg (fun q => c ⟨by
          by_cases e : i = n
          · subst e; have := q.2; rw [Int.toNat_natCast] at this; exact absurd this hl
          · omega, q.2⟩)]
theorem find_get {T : Nat → Nd} {root : Int} (g : Good T root) (i : Int) : (findB (boxN T 64) i).2 = (getN T i).live ∧ (findB (boxN T 64) i).1.quota = (getN T i).quota ∧ (findB (boxN T 64) i).1.used = (getN T i).used := by
  rw [find_box T i 64]
  unfold getN
  by_cases c : 0 ≤ i ∧ i < 64
  · rw [if_pos c]
    by_cases hl : (T i.toNat).live = true
    · rw [if_pos ⟨c, hl⟩]; exact ⟨hl.symm, rfl, rfl⟩
    · have hl' : (T i.toNat).live = false := by simpa using hl
      rw [if_neg (fun q => hl q.2), g.dead i.toNat (by omega) hl']; exact ⟨rfl, rfl, rfl⟩
  · rw [if_neg c, if_neg (fun q => c q.1)]; exact ⟨rfl, rfl, rfl⟩
theorem lent_box (T : Nat → Nd) (i : Int) : ∀ n, lentB i (boxN T n) = sm (fun j => part (T j) i) n
  | 0 => rfl
  | n + 1 => by
    by_cases hl : (T n).live = true
    · rw [box_yes T n hl, lentB_append, lent_box T i n, sm]
      congr 1
      unfold bx part
      show (if (T n).par = i then (T n).quota else 0) + 0 = _
      by_cases e : (T n).par = i
      · rw [if_pos e, if_pos (by simp [hl, e])]; omega
      · rw [if_neg e, if_neg (by simp [e])]; rfl
    · have hl' : (T n).live = false := by simpa using hl
      rw [box_no T n hl', lent_box T i n, sm, part_dead hl']; omega
theorem room_box {T : Nat → Nd} {root : Int} (g : Good T root) (i : Int) : roomB (boxN T 64) i = (getN T i).room := by
  obtain ⟨e1, e2, e3⟩ := find_get g i
  unfold roomB
  rw [e1, e2, e3]
  by_cases hl : (getN T i).live = true
  · rw [if_pos hl]
    obtain ⟨k, rfl, hk, hg⟩ := live_in hl
    rw [hg, lent_box T k 64]
    unfold Nd.room
    have := g.lent k hk
    unfold lentOf at this
    omega
  · rw [if_neg hl]
    have hl' : (getN T i).live = false := by simpa using hl
    unfold getN at hl' ⊢
    by_cases c : 0 ≤ i ∧ i < 64
    · rw [if_pos c] at hl' ⊢
      rw [g.dead i.toNat (by omega) hl']; rfl
    · rw [if_neg c]; rfl
theorem may_box {T : Nat → Nd} {root : Int} (g : Good T root) (i n : Int) : mayB (boxN T 64) i n = mayN T i n := by
  unfold mayB mayN
  rw [(find_get g i).1, room_box g i]
theorem credit_box {T : Nat → Nd} {root : Int} (g : Good T root) (i n : Int) : creditB (boxN T 64) i n = creditN T i n := by
  unfold creditB creditN
  rw [(find_get g i).1, (find_get g i).2.2]
theorem box_get (T : Nat → Nd) (k : Nat) (hk : k < (boxN T 64).length) : (boxN T 64).getD k Bx.zero = bx T ((liveL T 64).getD k 0) := by
  have hk' : k < (liveL T 64).length := by rw [← box_len]; exact hk
  unfold boxN
  rw [List.getD_eq_getElem?_getD, List.getElem?_map, List.getD_eq_getElem?_getD, List.getElem?_eq_getElem hk']; rfl
theorem box_fit {T : Nat → Nd} {root : Int} (g : Good T root) : FitB (boxN T 64) := fun k hk => by
  rw [box_get T k hk]
  have h1 := live_get T k (by rw [← box_len]; exact hk)
  have h2 := g.okT _ h1.1
  exact ⟨⟨h2.1, h2.2.1⟩, h2.2.2.1, h2.2.2.2.1⟩
theorem box_small (T : Nat → Nd) : (boxN T 64).length ≤ 64 := by rw [box_len]; exact live_len T 64
/-- what is used changes -/
theorem add_box (T : Nat → Nd) (k : Nat) (n : Int) : ∀ m, addB (boxN T m) k n = boxN (putT T k ((T k).plus n)) m
  | 0 => rfl
  | m + 1 => by
    have e : ∀ j, (putT T k ((T k).plus n) j).live = (T j).live := fun j => by
      by_cases c : j = k
      · subst c; rw [put_same]; rfl
      · rw [put_other _ _ _ _ c]
    by_cases hl : (T m).live = true
    · rw [box_yes T m hl, box_yes _ m (by rw [e]; exact hl), ← add_box T k n m]
      unfold addB
      rw [List.map_append]
      congr 1
      show [add1 k n (bx T m)] = _
      congr 1
      unfold add1 bx
      by_cases c : m = k
      · subst c; rw [if_pos rfl, put_same]; rfl
      · rw [if_neg (by show ¬ ((m : Int) = k); omega), put_other _ _ _ _ c]
    · have hl' : (T m).live = false := by simpa using hl
      rw [box_no T m hl', box_no _ m (by rw [e]; exact hl')]; exact add_box T k n m
end Go.Proofs.Ytebmnnliaeollaa
