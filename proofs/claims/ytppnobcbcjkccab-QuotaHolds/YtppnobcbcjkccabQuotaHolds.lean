/- For any root and any calls: no container has more than it may, its children with it; what is lent is what the children may have; all that is had is at most what the root may have; behind each of any 100 calls; no condition. -/
import Derived.Test.YtppnobcbcjkccabRows
import Derived.ProofKit
import Derived.OpenShut
import Derived.Carry
import Derived.Test.YtppnobcbcjkccabQ11
namespace Go.Proofs.Ytppnobcbcjkccab.quotaHolds
open Go.ChangeShapes Go.WideShapes Go.ChangeAt Go.RowKit Go.Maps
set_option linter.unusedSimpArgs false
set_option linter.unusedVariables false
def sumOn (f : Nat → Int) : List Nat → Int
  | [] => 0
  | a :: l => f a + sumOn f l
theorem sumOn_append (f : Nat → Int) (k : List Nat) : ∀ l, sumOn f (l ++ k) = sumOn f l + sumOn f k
  | [] => by rw [List.nil_append]; show _ = 0 + _; omega
  | a :: l => by rw [List.cons_append, sumOn, sumOn, sumOn_append f k l]; omega
theorem sumOn_take (f : Nat → Int) (L : List Nat) (m : Nat) (h : m < L.length) : sumOn f (L.take (m + 1)) = sumOn f (L.take m) + f (L.getD m 0) := by
  rw [List.take_add_one, sumOn_append, List.getElem?_eq_getElem h]
  have : L.getD m 0 = L[m] := by rw [List.getD, List.getElem?_eq_getElem h]; rfl
  rw [this]
  show _ + (f L[m] + 0) = _
  omega
theorem sumOn_live (f : Nat → Int) (T : Nat → Nd) : ∀ n, (∀ j, j < n → (T j).live = false → f j = 0) → sumOn f (liveL T n) = sm f n
  | 0, _ => rfl
  | n + 1, h => by
    rw [liveL, sumOn_append, sm, sumOn_live f T n (fun j hj => h j (by omega))]
    by_cases c : (T n).live = true
    · rw [if_pos c]; show _ + (f n + 0) = _; omega
    · rw [if_neg c, h n (by omega) (by simpa using c)]; rfl
theorem used_sum {T : Nat → Nd} {root : Int} (g : Good T root) : sumOn (fun j => (T j).used) (liveL T 64) ≤ root := by
  rw [sumOn_live _ T 64 (fun j hj h => by rw [g.dead j hj h]; rfl)]
  exact g.all_used
theorem part_sum {T : Nat → Nd} {root : Int} (g : Good T root) (k : Nat) (hk : k < 64) : sumOn (fun j => part (T j) k) (liveL T 64) = (T k).lent := by
  rw [sumOn_live _ T 64 (fun j hj h => part_dead h), g.lent k hk]; rfl

set_option maxRecDepth 8000 in
set_option maxHeartbeats 4000000 in
theorem walk (a0 : Int) (w0 : (Lit.int .i64 a0).wf = true) (p1 : Option Addr) (n1 c1 : Nat) (K1 I1 N1 : Nat → Int) (m1 : n1 ≤ maxLen) (w : World) (H1 : IsActs w p1 n1 K1 I1 N1) :
    Calls Try.prog 4 #[.int .i64 a0, .slice p1 n1 c1] w fun e w' => e = .returned (.bool true) ∧ Below w.heap.size w w' := by
  have AW : Hid (∀ W : World, Calls Try.prog 9 #[] W fun e w' => e = .returned (.bool true) ∧ Below W.heap.size W w') := fun W => awake_any W
  by_cases kb : a0 < 0 ∨ 1048576 < a0
  · have NW : Hid (∀ W : World, Calls Try.prog 8 #[.int .i64 a0] W fun e w' => e = .returned (.tuple #[.pointer none, .int .i64 1]) ∧ Below W.heap.size W w') := fun W => new_bad a0 kb W
    rcases kb with kb | kb
    all_goals
      have kd1 : decide (a0 < 0) = true ∨ (decide (a0 < 0) = false ∧ decide (1048576 < a0) = true) := by simp; omega
      rcases kd1 with kd | ⟨kd, kd2⟩
      all_goals
        go_enter Try.func4, Try.ntmps4
        go_wp2_with fail
        refine (NW.out _).mono ?_
        rintro e u0 ⟨rfl, hb0⟩
        have B0 : Hid (Below w.heap.size w u0) := hb0
        clear hb0
        go_wp2_with fail
        refine (AW.out _).mono ?_
        rintro e u1 ⟨rfl, hb1⟩
        have B1 : Hid (Below w.heap.size w u1) := below_then B0.out hb1
        clear hb1
        go_wp2_with fail
        go_ret
        exact ⟨rfl, B1.out⟩
  have NW : Hid (∀ W : World, Calls Try.prog 8 #[.int .i64 a0] W fun e w' => e = .returned (.tuple #[.pointer (some ⟨W.heap.size, 0, none⟩), .int .i64 0]) ∧ Own W w' W.heap.size (rootT a0)) := fun W => new_ok a0 (by omega) (by omega) W
  have GR : Hid (Good (rootT a0) a0) := root_good a0 (by omega) (by omega)
  have LVC : Hid (∀ (T : Nat → Nd) (W : World), IsTree W w.heap.size T → Calls Try.prog 11 #[.pointer (some ⟨w.heap.size, 0, none⟩)] W fun e w' => (∃ p c, e = .returned (.slice p (liveL T 64).length c) ∧ IsRow w' (w.heap.size + 1) p (liveL T 64)) ∧ Below W.heap.size W w') := fun T W h => (live_call w.heap.size T W h).mono fun e w' ⟨⟨p, c, h1, h2⟩, h3⟩ => ⟨⟨p, c, h1, h2.weak (by have := h.2.2; omega)⟩, h3⟩
  have GTC : Hid (∀ (T : Nat → Nd) (kk : Nat), kk < 64 → ∀ W : World, IsTree W w.heap.size T → Calls Try.prog 14 #[.pointer (some ⟨w.heap.size, 0, none⟩), .int .i64 kk] W fun e w' => e = .returned (.tuple #[.agg #[.int .i64 (T kk).par, .int .i64 (T kk).quota, .int .i64 (T kk).used, .int .i64 (T kk).lent, .bool (T kk).live], .bool (T kk).live]) ∧ Below W.heap.size W w') := fun T kk hk W h => by
    have := get_any w.heap.size T kk W h
    rw [get_nat T kk hk] at this; exact this
  have RMC : Hid (∀ (T : Nat → Nd), Good T a0 → ∀ (kk : Nat), kk < 64 → ∀ (W : World), IsTree W w.heap.size T → Calls Try.prog 12 #[.pointer (some ⟨w.heap.size, 0, none⟩), .int .i64 kk] W fun e w' => e = .returned (.int .i64 ((T kk).quota - (T kk).used - (T kk).lent)) ∧ Below W.heap.size W w') := fun T g kk hk W h => by
    have := room_any w.heap.size T g.okT kk W h
    rw [get_nat T kk hk] at this; exact this
  have HA : Hid (IsActs w p1 n1 K1 I1 N1) := H1
  have DO : Hid (∀ (T : Nat → Nd), Good T a0 → ∀ (k i n : Int) (W : World), IsTree W w.heap.size T → Calls Try.prog 10 #[.pointer (some ⟨w.heap.size, 0, none⟩), .slice none 0 0, .agg #[.int .i64 k, .int .i64 i, .int .i64 n]] W fun e w' => (∃ v, e = .returned v) ∧ IsTree w' w.heap.size (doesT T k i n) ∧ W.grownBy w' (some w.heap.size)) := fun T g k i n W h => does_any w.heap.size T g.okT g.parT k i n W h
  clear H1
  have mm : (n1 : Int) ≤ 9223372036854775807 := by have : maxLen ≤ 9223372036854775807 := by decide +kernel
                                                   omega
  go_enter Try.func4, Try.ntmps4
  go_wp2_with fail
  refine (NW.out _).mono ?_
  rintro e u0 ⟨rfl, h0⟩
  have M0 : Hid (OwnG w u0 w.heap.size (rootT a0) a0) := ⟨h0, GR.out⟩
  clear h0 NW GR
  go_wp2_with fail
  go_loopw [7] (fun x W => ∃ (k : Nat) (T : Nat → Nd), k ≤ n1 ∧ k ≤ 100 ∧ x = .int .i64 k ∧ Hid (OwnG w W w.heap.size T a0)) (fun x _ => 100 - (intOf x).toNat)
  case atStart => exact ⟨0, _, by omega, by omega, rfl, M0⟩
  case round =>
    obtain ⟨k, T, hk, hk6, rfl, hM⟩ := hrel
    by_cases hlt : k < n1 ∧ k < 100
    · have hd : decide ((k : Int) < (n1 : Int)) = true := by simp; omega
      have hd2 : decide ((k : Int) < 100) = true := by simp; omega
      obtain ⟨b, o, rfl, lb, c0, c1, c2⟩ := (HA.out.below hM.out.1.2.1) k hlt.1
      generalize K1 k = a_k at c0
      generalize I1 k = a_i at c1
      generalize N1 k = a_n at c2
      go_wp2_with fail
      refine (DO.out T hM.out.2 a_k a_i a_n _ hM.out.1.1).mono ?_
      rintro e u1 ⟨⟨v, rfl⟩, h1, h2⟩
      have M1 : Hid (OwnG w u1 w.heap.size (doesT T a_k a_i a_n) a0) := hM.out.next h1 h2 (hM.out.2.does _ _ _)
      clear h1 h2 c0 c1 c2 lb
      obtain ⟨T2, hT2⟩ : ∃ T2, doesT T a_k a_i a_n = T2 := ⟨_, rfl⟩
      rw [hT2] at M1
      clear hT2
      have LVT := LVC.out T2
      have US : Hid (sumOn (fun j => (T2 j).used) (liveL T2 64) ≤ a0) := used_sum M1.out.2
      have PS : Hid (∀ k, k < 64 → sumOn (fun j => part (T2 j) (k : Nat)) (liveL T2 64) = (T2 k).lent) := fun k hk => part_sum M1.out.2 k hk
      have LF : Hid (∀ i, i < (liveL T2 64).length → (liveL T2 64).getD i 0 < 64 ∧ (T2 ((liveL T2 64).getD i 0)).live = true) := fun i hi => live_get T2 i hi
      have ll : (liveL T2 64).length ≤ 64 := live_len T2 64
      have GG : Hid (Good T2 a0) := M1.out.2
      have LVH : Hid (∀ W : World, IsTree W w.heap.size T2 → Calls Try.prog 11 #[.pointer (some ⟨w.heap.size, 0, none⟩)] W fun e w' => (∃ p c, e = .returned (.slice p (liveL T2 64).length c) ∧ IsRow w' (w.heap.size + 1) p (liveL T2 64)) ∧ Below W.heap.size W w') := LVT
      clear LVT hM
      generalize liveL T2 64 = L at US PS LF ll LVH
      go_wp2_with fail
      refine (LVH.out _ M1.out.1.1).mono ?_
      rintro e u9 ⟨⟨p2, c9, rfl, hr⟩, hb1⟩
      have M2 : Hid (OwnG w u9 w.heap.size T2 a0) := M1.out.grow hb1
      have R1 : Hid (IsRow u9 (w.heap.size + 1) p2 L) := hr
      clear hr hb1 M1
      go_wp2_with fail
      go_loopw [8, 57] (fun us x W => ∃ (m : Nat) (S : Int), m ≤ L.length ∧ us = .int .i64 S ∧ x = .int .i64 m ∧ 0 ≤ S ∧ S ≤ (m : Int) * 1048576 ∧ Hid (S = sumOn (fun j => (T2 j).used) (L.take m)) ∧ Hid (OwnG w W w.heap.size T2 a0) ∧ Hid (IsRow W (w.heap.size + 1) p2 L)) (fun _ x _ => L.length - (intOf x).toNat)
      case atStart => exact ⟨0, 0, by omega, rfl, rfl, by omega, by omega, rfl, M2, R1⟩
      case round =>
        obtain ⟨m, S, hm, rfl, rfl, s0, s1, hS, hM3, hR3⟩ := hrel
        by_cases hlm : m < L.length
        · have hdm : decide ((m : Int) < (L.length : Int)) = true := by simp; omega
          obtain ⟨g, rfl, g1, g2, gc⟩ := hR3.out m hlm
          have kl := LF.out m hlm
          have HS1 : Hid (S + (T2 (L.getD m 0)).used = sumOn (fun j => (T2 j).used) (L.take (m + 1))) := by
            show _ = _
            rw [sumOn_take _ L m hlm, ← hS.out]
          generalize L.getD m 0 = kk at gc kl HS1
          obtain ⟨k64, klv⟩ := kl
          have nn := GG.out.nn kk k64
          have rb := GG.out.rb1
          have RM := RMC.out T2 GG.out kk k64
          have GT := GTC.out T2 kk k64
          have PK := PS.out kk k64
          generalize hlk : T2 kk = lk at nn RM GT PK klv HS1
          obtain ⟨lp, lq, lu, lz, lv⟩ := lk
          simp only at nn RM GT PK klv HS1
          subst klv
          obtain ⟨nn1, nn2, nn3, nn4, nn5⟩ := nn
          have RM' : Hid _ := RM
          have GT' : Hid _ := GT
          have PK' : Hid _ := PK
          clear RM GT PK hlk
          have RM : Hid _ := RM'.out
          have GT : Hid _ := GT'.out
          have PK : Hid _ := PK'.out
          clear RM' GT' PK'
          go_wp2_with fail
          refine (GT.out _ hM3.out.1.1).mono ?_
          rintro e u2 ⟨rfl, hb2⟩
          have M3 : Hid (OwnG w u2 w.heap.size T2 a0) := hM3.out.grow hb2
          have R3 : Hid (IsRow u2 (w.heap.size + 1) (some ⟨g, 0, none⟩) L) := hR3.out.below hb2
          clear hb2 gc g1 g2 hM3 hR3
          go_wp2_with fail
          refine wp_region_noPanic ?_
          refine wp_region_held_drew (S := fun c => c.cell? ⟨u2.heap.size, 1, none⟩ = some (.int .i64 lq) ∧ c.cell? ⟨u2.heap.size, 2, none⟩ = some (.int .i64 lu) ∧ c.cell? ⟨u2.heap.size, 3, none⟩ = some (.int .i64 lz)) (by kernel_rfl) ?_ (fun hHeld => ?_)
          · exact ⟨by simp, by simp, by simp⟩
          refine wpAnyH_take (i := 0) (oi := ⟨some 67, _, _, _, _, none⟩) (v := ?_) rfl (by kernel_rfl) (by kernel_rfl) (by kernel_rfl) (fun _ _ _ h => h) (Or.inl ⟨by rfl, ?_⟩) (by assumption) ?_
          rotate_left
          · intro w hSw; (try dsimp only at hSw); go_simp; (try with_reducible rfl)
          try simp only [Act.put, List.setIfInBounds_toArray, List.set_cons_zero, List.set_cons_succ]
          refine wpAnyH_take (i := 1) (oi := ⟨some 68, _, _, _, _, none⟩) (v := ?_) rfl (by kernel_rfl) (by kernel_rfl) (by kernel_rfl) (fun _ _ _ h => h) (Or.inl ⟨by rfl, ?_⟩) (by assumption) ?_
          rotate_left
          · intro w hSw; (try dsimp only at hSw); go_simp; (try with_reducible rfl)
          try simp only [Act.put, List.setIfInBounds_toArray, List.set_cons_zero, List.set_cons_succ]
          refine wpAnyH_take (i := 2) (oi := ⟨some 69, _, _, _, _, none⟩) (v := ?_) rfl (by kernel_rfl) (by kernel_rfl) (by kernel_rfl) (fun _ _ _ h => h) (Or.inl ⟨by rfl, ?_⟩) (by assumption) ?_
          rotate_left
          · intro w hSw; (try dsimp only at hSw); go_simp; (try with_reducible rfl)
          try simp only [Act.put, List.setIfInBounds_toArray, List.set_cons_zero, List.set_cons_succ]
          refine wpAnyH_take (i := 3) (oi := ⟨some 70, _, _, _, _, some (2, false)⟩) (v := ?_) rfl (by kernel_rfl) (by kernel_rfl) (by kernel_rfl) (fun _ _ _ h => h) (Or.inl ⟨by rfl, ?_⟩) (by assumption) ?_
          rotate_left
          · intro w hSw; (try dsimp only at hSw); go_simp; (try with_reducible rfl)
          try simp only [Act.put, List.setIfInBounds_toArray, List.set_cons_zero, List.set_cons_succ]
          refine wpAnyH_take (i := 4) (oi := ⟨some 71, _, _, _, _, some (2, false)⟩) (v := ?_) rfl (by kernel_rfl) (by kernel_rfl) (by kernel_rfl) (fun _ _ _ h => h) (Or.inl ⟨by rfl, ?_⟩) (by assumption) ?_
          rotate_left
          · intro w hSw; (try dsimp only at hSw); go_simp; (try with_reducible rfl)
          try simp only [Act.put, List.setIfInBounds_toArray, List.set_cons_zero, List.set_cons_succ]
          refine wpAnyH_take (i := 5) (oi := ⟨some 72, _, _, _, _, some (2, false)⟩) (v := .bool false) rfl (by kernel_rfl) (by kernel_rfl) (by kernel_rfl) (fun _ _ _ h => h) (Or.inl ⟨by rfl, ?_⟩) (by assumption) ?_
          · intro w hSw; (try dsimp only at hSw); go_simp; (try simp); (try omega)
          try simp only [Act.put, List.setIfInBounds_toArray, List.set_cons_zero, List.set_cons_succ]
          refine wpAnyH_take (i := 6) (oi := ⟨some 73, _, _, _, _, none⟩) (v := ?_) rfl (by kernel_rfl) (by kernel_rfl) (by kernel_rfl) (fun _ _ _ h => h) (Or.inl ⟨by rfl, ?_⟩) (by assumption) ?_
          rotate_left
          · intro w hSw; (try dsimp only at hSw); go_simp; (try with_reducible rfl)
          try simp only [Act.put, List.setIfInBounds_toArray, List.set_cons_zero, List.set_cons_succ]
          refine wpAnyH_take (i := 7) (oi := ⟨some 74, _, _, _, _, none⟩) (v := ?_) rfl (by kernel_rfl) (by kernel_rfl) (by kernel_rfl) (fun _ _ _ h => h) (Or.inl ⟨by rfl, ?_⟩) (by assumption) ?_
          rotate_left
          · intro w hSw; (try dsimp only at hSw); go_simp; (try with_reducible rfl)
          try simp only [Act.put, List.setIfInBounds_toArray, List.set_cons_zero, List.set_cons_succ]
          refine wpAnyH_take (i := 8) (oi := ⟨some 75, _, _, _, _, some (7, false)⟩) (v := ?_) rfl (by kernel_rfl) (by kernel_rfl) (by kernel_rfl) (fun _ _ _ h => h) (Or.inl ⟨by rfl, ?_⟩) (by assumption) ?_
          rotate_left
          · intro w hSw; (try dsimp only at hSw); go_simp; (try with_reducible rfl)
          try simp only [Act.put, List.setIfInBounds_toArray, List.set_cons_zero, List.set_cons_succ]
          refine wpAnyH_take (i := 9) (oi := ⟨some 76, _, _, _, _, some (7, false)⟩) (v := ?_) rfl (by kernel_rfl) (by kernel_rfl) (by kernel_rfl) (fun _ _ _ h => h) (Or.inl ⟨by rfl, ?_⟩) (by assumption) ?_
          rotate_left
          · intro w hSw; (try dsimp only at hSw); go_simp; (try with_reducible rfl)
          try simp only [Act.put, List.setIfInBounds_toArray, List.set_cons_zero, List.set_cons_succ]
          refine wpAnyH_take (i := 10) (oi := ⟨some 77, _, _, _, _, some (7, false)⟩) (v := .bool false) rfl (by kernel_rfl) (by kernel_rfl) (by kernel_rfl) (fun _ _ _ h => h) (Or.inl ⟨by rfl, ?_⟩) (by assumption) ?_
          · intro w hSw; (try dsimp only at hSw); go_simp; (try simp); (try omega)
          try simp only [Act.put, List.setIfInBounds_toArray, List.set_cons_zero, List.set_cons_succ]
          refine wpAnyH_take (i := 11) (oi := ⟨some 78, _, _, _, _, none⟩) (v := ?_) rfl (by kernel_rfl) (by kernel_rfl) (by kernel_rfl) (fun _ _ _ h => h) (Or.inl ⟨by rfl, ?_⟩) (by assumption) ?_
          rotate_left
          · intro w hSw; (try dsimp only at hSw); go_simp; (try with_reducible rfl)
          try simp only [Act.put, List.setIfInBounds_toArray, List.set_cons_zero, List.set_cons_succ]
          refine wpAnyH_take (i := 12) (oi := ⟨some 79, _, _, _, _, none⟩) (v := ?_) rfl (by kernel_rfl) (by kernel_rfl) (by kernel_rfl) (fun _ _ _ h => h) (Or.inl ⟨by rfl, ?_⟩) (by assumption) ?_
          rotate_left
          · intro w hSw; (try dsimp only at hSw); go_simp; (try with_reducible rfl)
          try simp only [Act.put, List.setIfInBounds_toArray, List.set_cons_zero, List.set_cons_succ]
          refine wpAnyH_take (i := 13) (oi := ⟨some 80, _, _, _, _, some (12, false)⟩) (v := ?_) rfl (by kernel_rfl) (by kernel_rfl) (by kernel_rfl) (fun _ _ _ h => h) (Or.inl ⟨by rfl, ?_⟩) (by assumption) ?_
          rotate_left
          · intro w hSw; (try dsimp only at hSw); go_simp; (try with_reducible rfl)
          try simp only [Act.put, List.setIfInBounds_toArray, List.set_cons_zero, List.set_cons_succ]
          refine wpAnyH_take (i := 14) (oi := ⟨some 81, _, _, _, _, some (12, false)⟩) (v := ?_) rfl (by kernel_rfl) (by kernel_rfl) (by kernel_rfl) (fun _ _ _ h => h) (Or.inl ⟨by rfl, ?_⟩) (by assumption) ?_
          rotate_left
          · intro w hSw; (try dsimp only at hSw); go_simp; (try with_reducible rfl)
          try simp only [Act.put, List.setIfInBounds_toArray, List.set_cons_zero, List.set_cons_succ]
          refine wpAnyH_take (i := 15) (oi := ⟨some 82, _, _, _, _, some (12, false)⟩) (v := ?_) rfl (by kernel_rfl) (by kernel_rfl) (by kernel_rfl) (fun _ _ _ h => h) (Or.inl ⟨by rfl, ?_⟩) (by assumption) ?_
          rotate_left
          · intro w hSw; (try dsimp only at hSw); go_simp; (try with_reducible rfl)
          try simp only [Act.put, List.setIfInBounds_toArray, List.set_cons_zero, List.set_cons_succ]
          refine wpAnyH_take (i := 16) (oi := ⟨some 83, _, _, _, _, some (12, false)⟩) (v := ?_) rfl (by kernel_rfl) (by kernel_rfl) (by kernel_rfl) (fun _ _ _ h => h) (Or.inl ⟨by rfl, ?_⟩) (by assumption) ?_
          rotate_left
          · intro w hSw; (try dsimp only at hSw); go_simp; (try with_reducible rfl)
          try simp only [Act.put, List.setIfInBounds_toArray, List.set_cons_zero, List.set_cons_succ]
          refine wpAnyH_take (i := 17) (oi := ⟨some 84, _, _, _, _, some (12, false)⟩) (v := ?_) rfl (by kernel_rfl) (by kernel_rfl) (by kernel_rfl) (fun _ _ _ h => h) (Or.inl ⟨by rfl, ?_⟩) (by assumption) ?_
          rotate_left
          · intro w hSw; (try dsimp only at hSw); go_simp; (try with_reducible rfl)
          try simp only [Act.put, List.setIfInBounds_toArray, List.set_cons_zero, List.set_cons_succ]
          refine wpAnyH_take (i := 18) (oi := ⟨some 85, _, _, _, _, some (12, false)⟩) (v := ?_) rfl (by kernel_rfl) (by kernel_rfl) (by kernel_rfl) (fun _ _ _ h => h) (Or.inl ⟨by rfl, ?_⟩) (by assumption) ?_
          rotate_left
          · intro w hSw; (try dsimp only at hSw); go_simp; (try with_reducible rfl)
          try simp only [Act.put, List.setIfInBounds_toArray, List.set_cons_zero, List.set_cons_succ]
          refine wpAnyH_take (i := 19) (oi := ⟨some 86, _, _, _, _, some (12, false)⟩) (v := ?_) rfl (by kernel_rfl) (by kernel_rfl) (by kernel_rfl) (fun _ _ _ h => h) (Or.inl ⟨by rfl, ?_⟩) (by assumption) ?_
          rotate_left
          · intro w hSw; (try dsimp only at hSw); go_simp; (try with_reducible rfl)
          try simp only [Act.put, List.setIfInBounds_toArray, List.set_cons_zero, List.set_cons_succ]
          refine wpAnyH_take (i := 20) (oi := ⟨some 87, _, _, _, _, some (12, false)⟩) (v := .bool false) rfl (by kernel_rfl) (by kernel_rfl) (by kernel_rfl) (fun _ _ _ h => h) (Or.inl ⟨by rfl, ?_⟩) (by assumption) ?_
          · intro w hSw; (try dsimp only at hSw); go_simp; (try simp); (try (simp only [IntKind.wrap_i64])); (try omega)
          try simp only [Act.put, List.setIfInBounds_toArray, List.set_cons_zero, List.set_cons_succ]
          refine wpAnyH_take (i := 21) (oi := ⟨some 88, _, _, _, _, none⟩) (v := ?_) rfl (by kernel_rfl) (by kernel_rfl) (by kernel_rfl) (fun _ _ _ h => h) (Or.inl ⟨by rfl, ?_⟩) (by assumption) ?_
          rotate_left
          · intro w hSw; (try dsimp only at hSw); go_simp; (try with_reducible rfl)
          try simp only [Act.put, List.setIfInBounds_toArray, List.set_cons_zero, List.set_cons_succ]
          refine wpAnyH_take (i := 22) (oi := ⟨some 89, _, _, _, _, none⟩) (v := ?_) rfl (by kernel_rfl) (by kernel_rfl) (by kernel_rfl) (fun _ _ _ h => h) (Or.inl ⟨by rfl, ?_⟩) (by assumption) ?_
          rotate_left
          · intro w hSw; (try dsimp only at hSw); go_simp; (try with_reducible rfl)
          try simp only [Act.put, List.setIfInBounds_toArray, List.set_cons_zero, List.set_cons_succ]
          refine wpAnyH_take (i := 23) (oi := ⟨some 90, _, _, _, _, some (22, false)⟩) (v := ?_) rfl (by kernel_rfl) (by kernel_rfl) (by kernel_rfl) (fun _ _ _ h => h) (Or.inl ⟨by rfl, ?_⟩) (by assumption) ?_
          rotate_left
          · intro w hSw; (try dsimp only at hSw); go_simp; (try with_reducible rfl)
          try simp only [Act.put, List.setIfInBounds_toArray, List.set_cons_zero, List.set_cons_succ]
          refine wpAnyH_take (i := 24) (oi := ⟨some 91, _, _, _, _, some (22, false)⟩) (v := ?_) rfl (by kernel_rfl) (by kernel_rfl) (by kernel_rfl) (fun _ _ _ h => h) (Or.inl ⟨by rfl, ?_⟩) (by assumption) ?_
          rotate_left
          · intro w hSw; (try dsimp only at hSw); go_simp; (try with_reducible rfl)
          try simp only [Act.put, List.setIfInBounds_toArray, List.set_cons_zero, List.set_cons_succ]
          refine wpAnyH_take (i := 26) (oi := ⟨some 93, _, _, _, _, some (22, false)⟩) (v := ?_) rfl (by kernel_rfl) (by kernel_rfl) (by kernel_rfl) (fun _ _ _ h => h) (Or.inl ⟨by rfl, ?_⟩) (by assumption) ?_
          rotate_left
          · intro w hSw; (try dsimp only at hSw); go_simp; (try with_reducible rfl)
          try simp only [Act.put, List.setIfInBounds_toArray, List.set_cons_zero, List.set_cons_succ]
          refine wpAnyH_take (i := 27) (oi := ⟨some 94, _, _, _, _, some (22, false)⟩) (v := ?_) rfl (by kernel_rfl) (by kernel_rfl) (by kernel_rfl) (fun _ _ _ h => h) (Or.inl ⟨by rfl, ?_⟩) (by assumption) ?_
          rotate_left
          · intro w hSw; (try dsimp only at hSw); go_simp; (try with_reducible rfl)
          try simp only [Act.put, List.setIfInBounds_toArray, List.set_cons_zero, List.set_cons_succ]
          refine wpAnyH_take (i := 28) (oi := ⟨some 95, _, _, _, _, some (22, false)⟩) (v := ?_) rfl (by kernel_rfl) (by kernel_rfl) (by kernel_rfl) (fun _ _ _ h => h) (Or.inl ⟨by rfl, ?_⟩) (by assumption) ?_
          rotate_left
          · intro w hSw; (try dsimp only at hSw); go_simp; (try with_reducible rfl)
          try simp only [Act.put, List.setIfInBounds_toArray, List.set_cons_zero, List.set_cons_succ]
          refine wpAnyH_take (i := 29) (oi := ⟨some 96, _, _, _, _, some (22, false)⟩) (v := ?_) rfl (by kernel_rfl) (by kernel_rfl) (by kernel_rfl) (fun _ _ _ h => h) (Or.inl ⟨by rfl, ?_⟩) (by assumption) ?_
          rotate_left
          · intro w hSw; (try dsimp only at hSw); go_simp; (try with_reducible rfl)
          try simp only [Act.put, List.setIfInBounds_toArray, List.set_cons_zero, List.set_cons_succ]
          refine wpAnyH_take (i := 30) (oi := ⟨some 97, _, _, _, _, some (22, false)⟩) (v := ?_) rfl (by kernel_rfl) (by kernel_rfl) (by kernel_rfl) (fun _ _ _ h => h) (Or.inl ⟨by rfl, ?_⟩) (by assumption) ?_
          rotate_left
          · intro w hSw; (try dsimp only at hSw); go_simp; (try with_reducible rfl)
          try simp only [Act.put, List.setIfInBounds_toArray, List.set_cons_zero, List.set_cons_succ]
          refine wpAnyH_take (i := 31) (oi := ⟨some 98, _, _, _, _, some (22, false)⟩) (v := ?_) rfl (by kernel_rfl) (by kernel_rfl) (by kernel_rfl) (fun _ _ _ h => h) (Or.inl ⟨by rfl, ?_⟩) (by assumption) ?_
          rotate_left
          · intro w hSw; (try dsimp only at hSw); go_simp; (try with_reducible rfl)
          try simp only [Act.put, List.setIfInBounds_toArray, List.set_cons_zero, List.set_cons_succ]
          refine wpAnyH_take (i := 32) (oi := ⟨some 99, _, _, _, _, some (22, false)⟩) (v := ?_) rfl (by kernel_rfl) (by kernel_rfl) (by kernel_rfl) (fun _ _ _ h => h) (Or.inl ⟨by rfl, ?_⟩) (by assumption) ?_
          rotate_left
          · intro w hSw; (try dsimp only at hSw); go_simp; (try with_reducible rfl)
          try simp only [Act.put, List.setIfInBounds_toArray, List.set_cons_zero, List.set_cons_succ]
          refine wpAnyH_take (i := 33) (oi := ⟨some 100, _, _, _, _, some (22, false)⟩) (v := ?_) rfl (by kernel_rfl) (by kernel_rfl) (by kernel_rfl) (fun _ _ _ h => h) (Or.inl ⟨by rfl, ?_⟩) (by assumption) ?_
          rotate_left
          · intro w hSw; (try dsimp only at hSw); go_simp; (try with_reducible rfl)
          try simp only [Act.put, List.setIfInBounds_toArray, List.set_cons_zero, List.set_cons_succ]
          have MD : Hid (OwnG w (u2.alloc (.cells #[.int .i64 lp, .int .i64 lq, .int .i64 lu, .int .i64 lz, .bool true] 40)).drew w.heap.size T2 a0) := ⟨⟨(M3.out.1.1.below (Go.Joins.below_alloc1 _ _)).drew, below_drew (below_new M3.out.1.2.1 _), M3.out.1.2.2⟩, M3.out.2⟩
          have RD : Hid (IsRow (u2.alloc (.cells #[.int .i64 lp, .int .i64 lq, .int .i64 lu, .int .i64 lz, .bool true] 40)).drew (w.heap.size + 1) (some ⟨g, 0, none⟩) L) := R3.out.below (below_drew (Go.Joins.below_alloc1 _ _))
          have lD : u2.heap.size < (u2.alloc (.cells #[.int .i64 lp, .int .i64 lq, .int .i64 lu, .int .i64 lz, .bool true] 40)).drew.heap.size := by show _ < (World.alloc _ _).heap.size; simp
          clear M3 R3
          generalize (u2.alloc (.cells #[.int .i64 lp, .int .i64 lq, .int .i64 lu, .int .i64 lz, .bool true] 40)).drew = U at MD RD lD hHeld ⊢
          refine wpAnyH_ready (rs := [25]) (by kernel_rfl) (by simp) ?_
          refine AllReadyH.cons (o := ⟨some 92, _, _, _, _, some (22, false)⟩) rfl (fun K hK => ?_) AllReadyH.nil
          go_simp
          go_wp2_with (go_at_call 12; refine (RM.out _ MD.out.1.1).mono ?_; rintro e u3 ⟨rfl, hb3⟩)
          have M4 : Hid (OwnG w u3 w.heap.size T2 a0) := MD.out.grow hb3
          have R4 : Hid (IsRow u3 (w.heap.size + 1) (some ⟨g, 0, none⟩) L) := RD.out.below hb3
          obtain ⟨y1, y2, y3⟩ := hHeld
          have x1 : u3.cell? ⟨u2.heap.size, 1, none⟩ = some (.int .i64 lq) := (hb3.cell (p := ⟨u2.heap.size, 1, none⟩) lD).trans y1
          have x2 : u3.cell? ⟨u2.heap.size, 2, none⟩ = some (.int .i64 lu) := (hb3.cell (p := ⟨u2.heap.size, 2, none⟩) lD).trans y2
          have x3 : u3.cell? ⟨u2.heap.size, 3, none⟩ = some (.int .i64 lz) := (hb3.cell (p := ⟨u2.heap.size, 3, none⟩) lD).trans y3
          have l3 : u2.heap.size < u3.heap.size := Nat.lt_of_lt_of_le lD hb3.size
          clear hb3 y1 y2 y3 MD RD lD
          refine hK.out _ _ ⟨x1, x2, x3⟩ (fun hHeld => ?_)
          clear hK K
          try simp only [Act.put, List.setIfInBounds_toArray, List.set_cons_zero, List.set_cons_succ]
          refine wpAnyH_take (i := 34) (oi := ⟨some 101, _, _, _, _, some (22, false)⟩) (v := .bool false) rfl (by kernel_rfl) (by kernel_rfl) (by kernel_rfl) (fun _ _ _ h => h) (Or.inl ⟨by rfl, ?_⟩) (by assumption) ?_
          · intro w hSw; (try dsimp only at hSw); go_simp; (try simp); (try (simp only [IntKind.wrap_i64])); (try omega)
          try simp only [Act.put, List.setIfInBounds_toArray, List.set_cons_zero, List.set_cons_succ]
          refine wpAnyH_take (i := 35) (oi := ⟨some 102, _, _, _, _, none⟩) (v := ?_) rfl (by kernel_rfl) (by kernel_rfl) (by kernel_rfl) (fun _ _ _ h => h) (Or.inl ⟨by rfl, ?_⟩) (by assumption) ?_
          rotate_left
          · intro w hSw; (try dsimp only at hSw); go_simp; (try with_reducible rfl)
          try simp only [Act.put, List.setIfInBounds_toArray, List.set_cons_zero, List.set_cons_succ]
          clear hHeld
          refine wpAnyH_done (by kernel_rfl) ?_ _
          refine NoPanic.normal ?_
          go_wp2_with fail
          refine (LVH.out _ M4.out.1.1).mono ?_
          rintro e u4 ⟨⟨p4, c4, rfl, hr⟩, hb4⟩
          have M5 : Hid (OwnG w u4 w.heap.size T2 a0) := M4.out.grow hb4
          have R5 : Hid (IsRow u4 (w.heap.size + 1) (some ⟨g, 0, none⟩) L) := R4.out.below hb4
          have R6 : Hid (IsRow u4 (w.heap.size + 1) p4 L) := hr
          have X4 : Hid (u4.cell? ⟨u2.heap.size, 3, none⟩ = some (.int .i64 lz) ∧ u2.heap.size < u4.heap.size) := ⟨(hb4.cell (p := ⟨u2.heap.size, 3, none⟩) l3).trans x3, Nat.lt_of_lt_of_le l3 hb4.size⟩
          clear hr hb4 M4 R4 x1 x2 x3 l3
          go_wp2_with fail
          go_loopw [13, 110] (fun le x W => ∃ (q : Nat) (Z : Int), q ≤ L.length ∧ le = .int .i64 Z ∧ x = .int .i64 q ∧ 0 ≤ Z ∧ Z ≤ (q : Int) * 1048576 ∧ Hid (Z = sumOn (fun j => part (T2 j) (kk : Nat)) (L.take q)) ∧ Hid (OwnG w W w.heap.size T2 a0) ∧ Hid (IsRow W (w.heap.size + 1) (some ⟨g, 0, none⟩) L) ∧ Hid (IsRow W (w.heap.size + 1) p4 L) ∧ Hid (W.cell? ⟨u2.heap.size, 3, none⟩ = some (.int .i64 lz) ∧ u2.heap.size < W.heap.size)) (fun _ x _ => L.length - (intOf x).toNat)
          case atStart => exact ⟨0, 0, by omega, rfl, rfl, by omega, by omega, rfl, M5, R5, R6, X4⟩
          case round =>
            obtain ⟨q, Z, hq, rfl, rfl, z0, z1, hZ, hM6, hR6, hR7, hX6⟩ := hrel
            by_cases hlq : q < L.length
            · have hdq : decide ((q : Int) < (L.length : Int)) = true := by simp; omega
              obtain ⟨g', rfl, g1, g2, gc⟩ := hR7.out q hlq
              have kl := LF.out q hlq
              have HZ1 : Hid (Z + part (T2 (L.getD q 0)) (kk : Nat) = sumOn (fun j => part (T2 j) (kk : Nat)) (L.take (q + 1))) := by
                show _ = _
                rw [sumOn_take _ L q hlq, ← hZ.out]
              generalize L.getD q 0 = jj at gc kl HZ1
              obtain ⟨j64, jlv⟩ := kl
              have nj := GG.out.nn jj j64
              have GT2 := GTC.out T2 jj j64
              generalize hlk : T2 jj = lk at nj GT2 jlv HZ1
              obtain ⟨jp, jq, ju, jz, jv⟩ := lk
              simp only at nj GT2 jlv HZ1
              subst jlv
              obtain ⟨nj1, nj2, nj3, nj4, nj5⟩ := nj
              have GT2' : Hid _ := GT2
              clear GT2 hlk
              by_cases cp : jp = (kk : Int)
              · have cb : (jp == (kk : Int)) = true := by simp [cp]
                have HZ2 : Hid (Z + jq = sumOn (fun j => part (T2 j) (kk : Nat)) (L.take (q + 1))) := by
                  have := HZ1.out
                  rw [part_yes rfl cp] at this; exact this
                clear cb HZ1
                subst cp
                go_wp2_with fail
                refine (GT2'.out _ hM6.out.1.1).mono ?_
                rintro e u5 ⟨rfl, hb5⟩
                have M7 : Hid (OwnG w (u5.alloc (.cells #[.int .i64 kk, .int .i64 jq, .int .i64 ju, .int .i64 jz, .bool true] 40)) w.heap.size T2 a0) := (hM6.out.grow hb5).grow (Go.Joins.below_alloc1 _ _)
                have R7 : Hid (IsRow (u5.alloc (.cells #[.int .i64 kk, .int .i64 jq, .int .i64 ju, .int .i64 jz, .bool true] 40)) (w.heap.size + 1) (some ⟨g, 0, none⟩) L) := (hR6.out.below hb5).below (Go.Joins.below_alloc1 _ _)
                have R8 : Hid (IsRow (u5.alloc (.cells #[.int .i64 kk, .int .i64 jq, .int .i64 ju, .int .i64 jz, .bool true] 40)) (w.heap.size + 1) (some ⟨g', 0, none⟩) L) := (hR7.out.below hb5).below (Go.Joins.below_alloc1 _ _)
                have X7 : Hid ((u5.alloc (.cells #[.int .i64 kk, .int .i64 jq, .int .i64 ju, .int .i64 jz, .bool true] 40)).cell? ⟨u2.heap.size, 3, none⟩ = some (.int .i64 lz) ∧ u2.heap.size < (u5.alloc (.cells #[.int .i64 kk, .int .i64 jq, .int .i64 ju, .int .i64 jz, .bool true] 40)).heap.size) := by
                  have l5 : u2.heap.size < u5.heap.size := Nat.lt_of_lt_of_le hX6.out.2 hb5.size
                  exact ⟨(World.cell?_alloc_lt _ _ _ (by exact l5)).trans ((hb5.cell (p := ⟨u2.heap.size, 3, none⟩) hX6.out.2).trans hX6.out.1), by rw [World.size_alloc]; omega⟩
                clear hb5 gc g1 g2 hM6 hR6 hR7 hX6
                go_wp2_with fail
                go_roundw
                case rel => exact ⟨q + 1, Z + jq, by omega, by go_num, by go_num, by omega, by omega, HZ2, M7, R7, R8, X7⟩
                case measure => simp [intOf]; omega
              · have cb : (jp == (kk : Int)) = false := by simp [cp]
                have HZ2 : Hid (Z = sumOn (fun j => part (T2 j) (kk : Nat)) (L.take (q + 1))) := by
                  have := HZ1.out
                  rw [part_no cp, Int.add_zero] at this; exact this
                go_wp2_with fail
                refine (GT2'.out _ hM6.out.1.1).mono ?_
                rintro e u5 ⟨rfl, hb5⟩
                have M7 : Hid (OwnG w (u5.alloc (.cells #[.int .i64 jp, .int .i64 jq, .int .i64 ju, .int .i64 jz, .bool true] 40)) w.heap.size T2 a0) := (hM6.out.grow hb5).grow (Go.Joins.below_alloc1 _ _)
                have R7 : Hid (IsRow (u5.alloc (.cells #[.int .i64 jp, .int .i64 jq, .int .i64 ju, .int .i64 jz, .bool true] 40)) (w.heap.size + 1) (some ⟨g, 0, none⟩) L) := (hR6.out.below hb5).below (Go.Joins.below_alloc1 _ _)
                have R8 : Hid (IsRow (u5.alloc (.cells #[.int .i64 jp, .int .i64 jq, .int .i64 ju, .int .i64 jz, .bool true] 40)) (w.heap.size + 1) (some ⟨g', 0, none⟩) L) := (hR7.out.below hb5).below (Go.Joins.below_alloc1 _ _)
                have X7 : Hid ((u5.alloc (.cells #[.int .i64 jp, .int .i64 jq, .int .i64 ju, .int .i64 jz, .bool true] 40)).cell? ⟨u2.heap.size, 3, none⟩ = some (.int .i64 lz) ∧ u2.heap.size < (u5.alloc (.cells #[.int .i64 jp, .int .i64 jq, .int .i64 ju, .int .i64 jz, .bool true] 40)).heap.size) := by
                  have l5 : u2.heap.size < u5.heap.size := Nat.lt_of_lt_of_le hX6.out.2 hb5.size
                  exact ⟨(World.cell?_alloc_lt _ _ _ (by exact l5)).trans ((hb5.cell (p := ⟨u2.heap.size, 3, none⟩) hX6.out.2).trans hX6.out.1), by rw [World.size_alloc]; omega⟩
                clear hb5 gc g1 g2 hM6 hR6 hR7 hX6 HZ1
                go_wp2_with fail
                go_roundw
                case rel => exact ⟨q + 1, Z, by omega, rfl, by go_num, by omega, by omega, HZ2, M7, R7, R8, X7⟩
                case measure => simp [intOf]; omega
            · obtain rfl : q = L.length := by omega
              obtain rfl : Z = lz := by
                have := hZ.out
                rw [List.take_length, PK.out] at this; exact this
              have x3 := hX6.out.1
              have lx := hX6.out.2
              clear hZ
              go_wp2_with fail
              go_roundw
              case rel => exact ⟨m + 1, S + lu, by omega, by go_num, by go_num, by omega, by omega, HS1, hM6, hR6⟩
              case measure => simp [intOf]; omega
        · obtain rfl : m = L.length := by omega
          have su : S ≤ a0 := by
            have := US.out
            have h2 := hS.out
            rw [List.take_length] at h2
            omega
          have sd : decide (a0 < S) = false := by simp; omega
          go_wp2_with fail
          go_roundw
          case rel => exact ⟨k + 1, T2, by omega, by omega, by go_num, hM3⟩
          case measure => simp [intOf]; omega
    · have hM1 : Hid (OwnG w wr w.heap.size T a0) := hM
      clear hM DO HA
      by_cases hq : k < n1
      · have hd : decide ((k : Int) < (n1 : Int)) = true := by simp; omega
        have hd2 : decide ((k : Int) < 100) = false := by simp; omega
        go_wp2_with fail
        refine (AW.out _).mono ?_
        rintro e u1 ⟨rfl, hb1⟩
        have M1 := hM1.out.grow hb1
        go_wp2_with fail
        go_ret
        exact ⟨rfl, M1.1.2.1⟩
      · have hd : decide ((k : Int) < (n1 : Int)) = false := by simp; omega
        go_wp2_with fail
        refine (AW.out _).mono ?_
        rintro e u1 ⟨rfl, hb1⟩
        have M1 := hM1.out.grow hb1
        go_wp2_with fail
        go_ret
        exact ⟨rfl, M1.1.2.1⟩

theorem own : ownKnob Try.prog.godebug = none := by kernel_rfl
theorem laidOut : laidOutB Try.prog = true := by kernel_rfl
set_option maxRecDepth 100000 in
theorem lifted (os : Os) (started : os.Started) (H : Type) (enc : TypeId × Value → H) :
    ReturnsInHanded {} Try.checked os 4 .any (Rows.quotaHoldsSpec.pre6 enc Try.prog Try.f4 Rows.quotaHoldsRow.domain false) (Rows.quotaHoldsSpec.post enc Try.prog Try.f4 false true false false) := by
  refine returnsInHanded_of_change (C := Try.checked) own started (by kernel_rfl) Try.func4
    (ChangeSpec.witness6 (enc := enc) (C := Try.checked) false ⟨#[], #[.int .i64 0, .slice none 0 0], []⟩ 8 (by kernel_rfl) (by kernel_rfl) (by kernel_rfl) (by kernel_rfl)) ?_
  intro W base args ds gs before hval0 hW hcnd _
  have hval : ∀ (j : Nat) t v, Try.f4.params[j]? = some t → args[j]? = some v → Value.okWide Try.prog W .any base t v := hval0
  have hW' := hW
  obtain ⟨p, q, hA0, hV, hbef, hfz, hnd⟩ := hW
  have hA : DataW.TrodAll enc Try.prog W 0 (fun _ => true) true Try.f4.params.toList args.toList ds p := hA0
  have hAk := hA
  have hlt : ∀ x ∈ p, x.block < W.heap.size := fun x hx => hW'.lt x (by rw [hbef]; exact List.mem_append_left _ hx)
  rw [Try.params4] at hA hval
  obtain ⟨v0, vs0, d0, ds0, p0, q0, hargs, rfl, hp0, h0, r0⟩ := trodAll_cons hA
  obtain ⟨v1, vs1, d1, ds1, p1, q1, rfl, rfl, hp1, h1, r1⟩ := trodAll_cons r0
  obtain ⟨rfl, rfl, hpz⟩ := trodAll_nil r1
  obtain rfl : args = #[v0, v1] := by cases args; simp_all
  obtain ⟨rfl, rfl⟩ := trodVars_none hV
  obtain ⟨a0, rfl, _, _, w0⟩ := open_int Try.underlying3 (hval 0 3 v0 rfl rfl) h0
  obtain ⟨p1, n1, c1, K1, I1, N1, rfl, m1, H1⟩ := open_acts (hval 1 22 v1 rfl rfl) h1
  clear hA0 hval0
  refine (walk a0 w0 p1 n1 c1 K1 I1 N1 m1 W H1).mono fun e W' ⟨he, hg⟩ => ?_
  subst he
  exact ⟨_, rfl, ⟨_, _, _, [], p, [], hW', (trodAll_cons_mk (shut_bool Try.underlying4 _) trodAll_mk0), args_stay laidOut hg (by kernel_rfl) hAk hlt, rfl, hg.frame _, fun h => by cases h⟩⟩

theorem over : Rows.quotaHoldsRow.holds Try.pinned (OpenSpec.ofChange Rows.quotaHoldsSpec) :=
  OpenClaim.holds_of_wide 4 Try.f4 rfl rfl rfl rfl rfl rfl rfl ⟨rfl, rfl, rfl, rfl, rfl⟩ rfl rfl rfl rfl rfl (by kernel_rfl) Try.func4 (by kernel_rfl)
    (of_decide_eq_true (by kernel_rfl)) (by unfold Func.isWrapper; first | (rw [if_pos (by decide +kernel)]; kernel_rfl) | (rw [if_neg (by decide +kernel)]; exact ⟨rfl, rfl⟩))
    (fun os started H enc _ => lifted os started H enc)

theorem proved : Rows.QuotaHoldsSaid :=
  over
#print axioms proved
end Go.Proofs.Ytppnobcbcjkccab.quotaHolds
